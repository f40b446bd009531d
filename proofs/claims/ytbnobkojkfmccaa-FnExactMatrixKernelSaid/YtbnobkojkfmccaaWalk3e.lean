/- Chapter 3 in the model: times, solve, rank as the laws meet them. -/
import Derived.Test.YtbnobkojkfmccaaWalk3d
import Derived.Test.YtbnobkojkfmccaaMath3b
import Derived.Test.YtbnobkojkfmccaaFace2b
namespace Go.Proofs.Ytbnobkojkfmccaa
open Go.RowKit
set_option maxRecDepth 100000

def R_MatrixTimes_1 (a : List (List Int)) (b : List Int) : Bool := matB a && decide (b.length = (a.getD 0 []).length) && numsB b
def R_MatrixTimes_0 (a : List (List Int)) (b : List Int) : List Int := if R_MatrixTimes_1 a b = true then matTimes a b a.length else []
theorem Still.rdAll {w w' : World} (h : Still w w') {A : Option Addr} {n : Nat} {xs : List Value} (r : Rd w w.heap.size 1 A n xs) : Rd w' w'.heap.size 1 A n xs := by rw [h.sz]; exact h.rd r
theorem Still.rdR {w w' : World} (h : Still w w') {A : Option Addr} {n : Nat} {vs : List Value} {d : List (List Int)} (r : RdR w w.heap.size A n vs d) : RdR w' w'.heap.size A n vs d := by rw [h.sz]; exact r.keep (h.below _)

set_option maxHeartbeats 1000000 in
theorem X_s_MatrixTimes (v v' : Value) (a : List (List Int)) (b : List Int) (w : World) (h : RdIntSS w w.heap.size v a) (h' : RdIntS w w.heap.size v' b) (hs : szIntSS a ≤ 1048576) (hs' : szIntS b ≤ 1048576) :
    Calls Try.prog 17 #[v, v'] w fun e w' => ∃ g, e = .returned (.tuple #[g, .bool (R_MatrixTimes_1 a b)]) ∧ OwIntS w' w.heap.size w'.heap.size g (R_MatrixTimes_0 a b) ∧ Below w.heap.size w w' := by
  obtain ⟨A, n, c, vs, rfl, hm, r⟩ := h
  obtain ⟨A', n', c', rfl, hm', r'⟩ := h'
  have hn : n ≤ 1048576 := by have := r.2.1; unfold szIntSS at hs; omega
  have HLN : Hid (lensK a n ≤ 1048576) := Lib.hid (by have := r.2.1; unfold szIntSS at hs; rw [← this]; omega)
  have hn' : n' ≤ 1048576 := by have := r'.len; unfold szIntS at hs'; omega
  have hl := Lib.hid r.2.1
  have hl' := Lib.hid r'.len
  have H := Lib.hid r
  have H' := Lib.hid r'
  clear r r' hs hs' hm hm'
  cases ha : matB a
  · have HF : Hid (R_MatrixTimes_1 a b = false) := Lib.hid (by simp [R_MatrixTimes_1, ha])
    have HR : Hid (R_MatrixTimes_0 a b = []) := Lib.hid (by simp [R_MatrixTimes_0, R_MatrixTimes_1, ha])
    go_enter Try.func17, Try.ntmps17
    go_wp2_with fail
    refine (s_MatrixOk _ _ _ _ _ _ H.out hn HLN.out).mono ?_
    rintro e w1 ⟨rfl, hst⟩
    have HS := Lib.hid hst
    clear hst
    go_wp2
    go_ret2
    refine ⟨_, ret_vb HF.out.symm, ?_, HS.out.below _⟩
    rw [HR.out]; exact OwIntS.nil_ _ _ _
  · have HM := Lib.hid (Mat.of ha)
    have n1 : 0 < n := by have := HM.out.rows.1; have := hl.out; omega
    obtain ⟨a0, A0, m, c0, rfl, hab, hc00, hr0, _, hm0⟩ := H.out.row n1
    have hc0 : w.cell? a0 = some (.slice A0 m c0) := hc00
    have HC0 := Lib.hid hc0
    have HM0 := Lib.hid hm0
    clear hc00 hr0 hm0 hc0
    by_cases hne : n' = m
    · subst hne
      have hlm : decide (b.length = (a.getD 0 []).length) = true := decide_eq_true (hl'.out.trans HM0.out.symm)
      have hbn : ((n' : Int) != (n' : Int)) = false := by simp
      cases hb : numsB b
      · clear hlm
        have HF : Hid (R_MatrixTimes_1 a b = false) := Lib.hid (by simp [R_MatrixTimes_1, hb])
        have HR : Hid (R_MatrixTimes_0 a b = []) := Lib.hid (by simp [R_MatrixTimes_0, R_MatrixTimes_1, hb])
        go_enter Try.func17, Try.ntmps17
        go_wp2_with fail
        refine (s_MatrixOk _ _ _ _ _ _ H.out hn HLN.out).mono ?_
        rintro e w1 ⟨rfl, hst⟩
        have HS := Lib.hid hst
        have hc0 := (HS.out.cell a0).trans HC0.out
        clear hst
        go_wp2_with fail
        refine (s_l1In _ _ _ _ _ (HS.out.rdAll H'.out) hn').mono ?_
        rintro e w2 ⟨rfl, rfl⟩
        go_wp2
        go_ret2
        refine ⟨_, ret_vb HF.out.symm, ?_, HS.out.below _⟩
        rw [HR.out]; exact OwIntS.nil_ _ _ _
      · have HF : Hid (R_MatrixTimes_1 a b = true) := Lib.hid (by unfold R_MatrixTimes_1; rw [ha, hlm, hb]; rfl)
        have HR : Hid (R_MatrixTimes_0 a b = matTimes a b n) := Lib.hid (by unfold R_MatrixTimes_0; rw [if_pos HF.out, hl.out])
        clear hlm
        have HN := Lib.hid (nums_of_B hb)
        go_enter Try.func17, Try.ntmps17
        go_wp2_with fail
        refine (s_MatrixOk _ _ _ _ _ _ H.out hn HLN.out).mono ?_
        rintro e w1 ⟨rfl, hst⟩
        have HS := Lib.hid hst
        have hc0 := (HS.out.cell a0).trans HC0.out
        clear hst
        go_wp2_with fail
        refine (s_l1In _ _ _ _ _ (HS.out.rdAll H'.out) hn').mono ?_
        rintro e w2 ⟨rfl, rfl⟩
        go_wp2_with fail
        refine (s_l3Times _ _ _ _ _ _ _ _ _ _ (HS.out.rdR H.out) (HS.out.rdAll H'.out) (by rw [HM0.out] at HM; exact HM.out) HN.out).mono ?_
        rintro e w2 ⟨g, rfl, ho, hbl⟩
        have HO := Lib.hid ho
        have HBL := Lib.hid hbl
        clear ho hbl
        go_wp2
        go_ret2
        refine ⟨_, ret_vb HF.out.symm, ?_, (HS.out.below _).trans (HBL.out.mono (by rw [HS.out.sz]; exact Nat.le_refl _))⟩
        rw [HR.out]; exact HO.out.widen (by rw [HS.out.sz]; exact Nat.le_refl _) (Nat.le_refl _)
    · have hbn : ((n' : Int) != (m : Int)) = true := by rw [bne_iff_ne]; omega
      have HF : Hid (R_MatrixTimes_1 a b = false) := Lib.hid (by unfold R_MatrixTimes_1; rw [decide_eq_false (by rw [hl'.out, HM0.out]; exact hne)]; simp)
      have HR : Hid (R_MatrixTimes_0 a b = []) := Lib.hid (by simp [R_MatrixTimes_0, HF.out])
      clear hne
      go_enter Try.func17, Try.ntmps17
      go_wp2_with fail
      refine (s_MatrixOk _ _ _ _ _ _ H.out hn HLN.out).mono ?_
      rintro e w1 ⟨rfl, hst⟩
      have HS := Lib.hid hst
      have hc0 := (HS.out.cell a0).trans HC0.out
      clear hst
      go_wp2
      go_ret2
      refine ⟨_, ret_vb HF.out.symm, ?_, HS.out.below _⟩
      rw [HR.out]; exact OwIntS.nil_ _ _ _

/-- what the elimination of a matrix and a right side leaves -/
def redOf (d : List (List Int)) (r : List Int) (m : Nat) : List (List Int) × List Int := redC (augR d r d.length) d.length (m + 1) m
theorem redOf_inv {d : List (List Int)} {r : List Int} {m : Nat} (h : Mat d m) (hx : Nums r) :
    Shp (redOf d r m).1 d.length (m + 1) ∧ (redOf d r m).2.length ≤ d.length ∧ ∀ i, i < (redOf d r m).2.length → 0 ≤ (redOf d r m).2.getD i 0 ∧ (redOf d r m).2.getD i 0 < (m : Int) :=
  redC_inv (Shp.aug h rfl hx) m
def solvB (d : List (List Int)) (r : List Int) (m : Nat) : Bool := solB (redOf d r m).1 (redOf d r m).2.length m d.length
def solvL (d : List (List Int)) (r : List Int) (m : Nat) : List Int := if solvB d r m = true then solK (redOf d r m).1 (redOf d r m).2 m d.length else []

set_option maxRecDepth 100000 in
set_option maxHeartbeats 4000000 in
theorem s_l3Solve (A A' : Option Addr) (n c c' m : Nat) (vs : List Value) (d : List (List Int)) (r : List Int) (w : World) (h : RdR w w.heap.size A n vs d) (h' : Rd w w.heap.size 1 A' n (cI r)) (hM : Mat d m) (hx : Nums r) :
    Calls Try.prog 54 #[.slice A n c, .slice A' n c'] w fun e w' => ∃ g, e = .returned (.tuple #[g, .bool (solvB d r m)]) ∧ OwIntS w' w.heap.size w'.heap.size g (solvL d r m) ∧ Below w.heap.size w w' := by
  have hlen := Lib.hid h.2.1
  have n8 : n ≤ 8 := by have := hM.rows.2; have := h.2.1; omega
  have n1 : 1 ≤ n := by have := hM.rows.1; have := h.2.1; omega
  have m8 : m ≤ 8 := hM.cols.2
  have HI := Lib.hid (redOf_inv hM hx)
  have H := Lib.hid h
  have H' := Lib.hid h'
  have HM := Lib.hid hM
  have HX := Lib.hid hx
  have HRE : Hid (redC (augR d r n) n (m + 1) m = redOf d r m) := Lib.hid (by unfold redOf; rw [h.2.1])
  have hmk := fun W => run_make1 (P := Try.prog) Try.underlying27 info_int rfl m (by omega) (by omega) W
  obtain ⟨a, A0, nm, c0, rfl, hab, hc00, hr0, _, hm0⟩ := h.row (show 0 < n by omega)
  obtain rfl : nm = m := by have := hM.len 0 (by have := h.2.1; omega); omega
  have HC0 : Hid (w.cell? a = some (.slice A0 nm c0)) := Lib.hid hc00
  clear h h' hM hx hc00 hr0 hm0
  go_enter Try.func54, Try.ntmps54
  go_wp2_with fail
  refine (s_l3Reduced _ _ _ _ _ _ _ _ _ _ H.out H'.out HM.out HX.out).mono ?_
  rintro e w1 ⟨Ar, cr, tv, mid, ws, rfl, hz1, hz2, hbl, hor, hot⟩
  rw [HRE.out] at hor hot
  obtain ⟨D, HD⟩ : ∃ D, Hid ((redOf d r nm).1 = D) := ⟨_, Lib.hid rfl⟩
  obtain ⟨T, HT⟩ : ∃ T, Hid ((redOf d r nm).2 = T) := ⟨_, Lib.hid rfl⟩
  rw [HD.out] at hor
  rw [HT.out] at hot
  rw [HD.out, HT.out] at HI
  obtain ⟨hsT, At, kt, ct, rfl, hot⟩ := hot
  have HTL := Lib.hid hot.len
  have HOT := Lib.hid hot.rd
  have HOR := Lib.hid (hor.rd.more hz2)
  have HB := Lib.hid hbl
  have HZ := Lib.hid hbl.size
  have hkt : kt ≤ n := by have := HI.out.2.1; have := hlen.out; have := HTL.out; omega
  have hc0 := (hbl.cell (p := a) hab).trans HC0.out
  clear hot hor hbl hsT hz1 hz2
  obtain ⟨wx, rfl⟩ : ∃ wx : World, wx = w1 := ⟨_, rfl⟩
  have HX0 : Hid (Ow (wx.alloc (.cells (Array.replicate nm (.int .i64 0)) 3)) wx.heap.size (wx.heap.size + 1) 3 1 (some ⟨wx.heap.size, 0, none⟩) nm nm (cI (solK D T nm 0))) := Lib.hid (by rw [solK, ← cI_zeros]; exact Ow.zeros _ _ _ _)
  have HY0 : Hid (Below wx.heap.size wx (wx.alloc (.cells (Array.replicate nm (.int .i64 0)) 3))) := Lib.hid ((Below.refl _ _).alloc (Nat.le_refl _) _)
  have HS0 : Hid ((wx.alloc (.cells (Array.replicate nm (.int .i64 0)) 3)).heap.size = wx.heap.size + 1) := Lib.hid (by simp)
  go_wp2
  go_loopw [10] (fun jv wr => ∃ j : Nat, j ≤ n ∧ jv = .int .i64 j ∧ Hid (solB D kt nm j = true) ∧ Hid (Ow wr wx.heap.size (wx.heap.size + 1) 3 1 (some ⟨wx.heap.size, 0, none⟩) nm nm (cI (solK D T nm j))) ∧ Hid (Below wx.heap.size wx wr) ∧ Hid (wr.heap.size = wx.heap.size + 1)) (fun jv _ => n - (intOf jv).toNat)
  case atStart => exact ⟨0, Nat.zero_le _, rfl, Lib.hid rfl, HX0, HY0, HS0⟩
  case round =>
    clear HX0 HY0 HS0 hc0
    obtain ⟨j, hj, rfl, HSB, HO, HBx, HSZ⟩ := hrel
    have j0 : (0 : Int) ≤ (j : Int) := by omega
    have hSb := HI.out.2.2
    have HI2 := Lib.hid hSb
    clear hSb
    by_cases hjn : j < n
    · have j1 : (j : Int) < (n : Int) := by omega
      obtain ⟨ar, Ai, ni, ci, rfl, har, hcr0, hri, _, hmi⟩ := HOR.out.row hjn
      have HRL : Hid ((D.getD j []).length = nm + 1 ∧ Nums (D.getD j [])) := Lib.hid (HI.out.1.2 j (by have := hlen.out; omega))
      obtain ⟨L, HL⟩ : ∃ L, Hid (L = nm + 1) := ⟨_, Lib.hid rfl⟩
      obtain rfl : ni = L := by have := HRL.out.1; have := HL.out; omega
      obtain ⟨_, _, _, e2, _, ri⟩ := hri
      injection e2 with e1 e2 e3; subst e1; subst e2; subst e3
      obtain ⟨ay, y, rfl, hay, hcy0, HY⟩ := ri.intAt (show nm < ni by have := HL.out; omega)
      have hcr := (HBx.out.cell (p := ar.add j) (by rw [add_block]; exact har)).trans hcr0
      have hcy := (HBx.out.cell (p := ay.add nm) (by rw [add_block]; exact hay)).trans hcy0
      have n0 : (0 : Int) ≤ (nm : Int) := by omega
      have n2 : (nm : Int) < (ni : Int) := by have := HL.out; omega
      clear hcr0 hcy0 hmi ri
      by_cases hjk : j < kt
      · obtain ⟨at_, t, rfl, hat, hct0, HTQ⟩ := HOT.out.intAt hjk
        have ht := HI2.out j (by rw [HTL.out]; exact hjk)
        rw [← HTQ.out] at ht
        obtain ⟨tn, rfl⟩ := Int.eq_ofNat_of_zero_le ht.1
        have t0 : (0 : Int) ≤ (tn : Int) := by omega
        have t1 : (tn : Int) < (nm : Int) := ht.2
        have hct := (HBx.out.cell (p := at_.add j) (by rw [add_block]; exact Nat.lt_of_lt_of_le hat (Nat.le_refl _))).trans hct0
        have k1 : (j : Int) < (kt : Int) := by omega
        have hf := HO.out.free (by omega) tn
        obtain ⟨z, hcz, _⟩ := HO.out.intAt (show tn < nm by omega)
        have HO3 : Hid (Ow (wr.setCell ⟨wx.heap.size, tn, none⟩ (.int .i64 y)).drew wx.heap.size (wx.heap.size + 1) 3 1 (some ⟨wx.heap.size, 0, none⟩) nm nm (cI (solK D T nm (j + 1)))) := Lib.hid (by
          have := HO.out.set tn (.int .i64 y)
          rw [cI_set] at this
          rw [solK, if_pos (by rw [HTL.out]; exact hjk), ← HTQ.out, ← HY.out]
          exact this)
        have HB3 : Hid (Below wx.heap.size wx (wr.setCell ⟨wx.heap.size, tn, none⟩ (.int .i64 y)).drew) := Lib.hid (below_drew (HBx.out.setCell (p := ⟨wx.heap.size, tn, none⟩) (Nat.le_refl _) _))
        have HSZ3 : Hid ((wr.setCell ⟨wx.heap.size, tn, none⟩ (.int .i64 y)).drew.heap.size = wx.heap.size + 1) := Lib.hid (by rw [World.size_drew, World.size_setCell]; exact HSZ.out)
        have HSB3 : Hid (solB D kt nm (j + 1) = true) := Lib.hid (by rw [solB, HSB.out]; simp [hjk])
        clear HO HBx HSZ HSB ht hct0 HTQ HY
        go_wp2
        go_still_tail 13, (by kernel_rfl)
        change wpList _ _ _ _ _ wr.drew
        go_wp2
        go_roundw
        case rel => exact ⟨j + 1, by omega, by go_num, HSB3, HO3, HB3, HSZ3⟩
        case measure => simp [intOf] <;> omega
      · by_cases hy0 : y = 0
        · subst hy0
          have HSB3 : Hid (solB D kt nm (j + 1) = true) := Lib.hid (by rw [solB, HSB.out, ← HY.out]; simp)
          have HO3 : Hid (Ow wr wx.heap.size (wx.heap.size + 1) 3 1 (some ⟨wx.heap.size, 0, none⟩) nm nm (cI (solK D T nm (j + 1)))) := Lib.hid (by
            rw [solK, if_neg (by rw [HTL.out]; exact hjk)]; exact HO.out)
          clear HO HSB
          go_wp2
          go_roundw
          case rel => exact ⟨j + 1, by omega, by go_num, HSB3, HO3, HBx, HSZ⟩
          case measure => simp [intOf] <;> omega
        · have hyb : (y != 0) = true := by simp [hy0]
          have HF : Hid (solB D kt nm n = false) := Lib.hid (solB_bad (i := j) (by rw [solB, ← HY.out]; simp [hjk, hy0]) hjn)
          have HF1 : Hid (solvB d r nm = false) := Lib.hid (by unfold solvB; rw [HD.out, HT.out, HTL.out, hlen.out]; exact HF.out)
          have HF2 : Hid (solvL d r nm = []) := Lib.hid (by unfold solvL; rw [HF1.out]; rfl)
          go_wp2
          go_ret2
          refine ⟨_, ret_vb HF1.out.symm, ?_, HB.out.trans (HBx.out.mono HZ.out)⟩
          rw [HF2.out]; exact OwIntS.nil_ _ _ _
    · obtain rfl : n = j := by omega
      have HF1 : Hid (solvB d r nm = true) := Lib.hid (by unfold solvB; rw [HD.out, HT.out, HTL.out, hlen.out]; exact HSB.out)
      have HF2 : Hid (solvL d r nm = solK D T nm n) := Lib.hid (by unfold solvL; rw [if_pos HF1.out, HD.out, HT.out, hlen.out])
      go_wp2
      go_ret2
      refine ⟨_, ret_vb HF1.out.symm, ?_, HB.out.trans (HBx.out.mono HZ.out)⟩
      rw [HF2.out]
      refine ⟨by rw [solK_length]; omega, _, _, _, rfl, ?_⟩
      exact HO.out.widen HZ.out (by have := HSZ.out; omega)
end Go.Proofs.Ytbnobkojkfmccaa
