/- Chapter 3 in the model: a matrix times a list. -/
import Derived.Test.YtbnobkojkfmccaaWalk3a
import Derived.Test.YtbnobkojkfmccaaAppend
namespace Go.Proofs.Ytbnobkojkfmccaa
open Go.RowKit
set_option maxRecDepth 100000

/-- the sum of the first k products -/
def dotK (r x : List Int) : Nat → Int
  | 0 => 0
  | k + 1 => (dotK r x k + r.getD k 0 * x.getD k 0) % 113
theorem dotK_lo (r x : List Int) (k : Nat) : 0 ≤ dotK r x k ∧ dotK r x k ≤ 112 := by
  cases k with
  | zero => simp [dotK]
  | succ k => rw [dotK]; omega
def matTimes (d : List (List Int)) (x : List Int) (k : Nat) : List Int := (List.range k).map fun i => dotK (d.getD i []) x x.length
theorem matTimes_succ (d : List (List Int)) (x : List Int) (k : Nat) : matTimes d x (k + 1) = matTimes d x k ++ [dotK (d.getD k []) x x.length] := by simp [matTimes, List.range_succ]
theorem matTimes_length (d : List (List Int)) (x : List Int) (k : Nat) : (matTimes d x k).length = k := by simp [matTimes]
theorem cI_append (xs ys : List Int) : cI (xs ++ ys) = cI xs ++ cI ys := by simp [cI]
/-- what a row grown from nothing comes to -/
theorem own_done {w1 : World} {B e k : Nat} {v : Value} {ys : List Int} (he : e = 3) (h : w1.ownsRow B e 1 v k (cI ys)) (hs : k ≤ 1048576) : OwIntS w1 B w1.heap.size v ys := by
  subst he
  obtain ⟨A, c, rfl, ho⟩ := Ow.of_own h
  exact ⟨by have := ho.len; omega, A, _, c, rfl, ho⟩
/-- a block of one's own and what comes of an append -/
theorem below_append {B : Nat} {w w0 w1 : World} {v : Value} (hb : Below B w0 w) (hg : w.grownBy w1 v.ownBlock) (hv : ∀ g, v.ownBlock = some g → B ≤ g) (hB : B ≤ w.heap.size) : Below B w0 w1 := hb.grown hg hB hv
theorem own_block {w : World} {B e size n : Nat} {v : Value} {xs : List Value} (h : w.ownsRow B e size v n xs) : ∀ g, v.ownBlock = some g → B ≤ g := fun g hg => (h.lt g hg).1

set_option maxHeartbeats 2000000 in
theorem s_l3Times (A A' : Option Addr) (n c m c' : Nat) (vs : List Value) (d : List (List Int)) (x : List Int) (w : World) (h : RdR w w.heap.size A n vs d) (h' : Rd w w.heap.size 1 A' m (cI x)) (hM : Mat d m) (hx : Nums x) :
    Calls Try.prog 52 #[.slice A n c, .slice A' m c'] w fun e w' => ∃ v, e = .returned v ∧ OwIntS w' w.heap.size w'.heap.size v (matTimes d x n) ∧ Below w.heap.size w w' := by
  have hlen := Lib.hid h.2.1
  have hlx := Lib.hid h'.len
  have H := Lib.hid h
  have H' := Lib.hid h'
  have n8 : n ≤ 8 := by have := hM.rows.2; have := h.2.1; omega
  have m8 : m ≤ 8 := hM.cols.2
  have HM := Lib.hid hM
  have HX := Lib.hid hx
  clear h h' hM hx
  have HOW : Hid ((w.alloc (.cells #[] 3)).ownsRow w.heap.size 3 1 (.slice (some ⟨w.heap.size, 0, none⟩) 0 0) 0 (cI [])) := Lib.hid (own_empty _ _ _)
  have HB0 : Hid (Below w.heap.size w (w.alloc (.cells #[] 3))) := Lib.hid ((Below.refl _ _).alloc (Nat.le_refl _) _)
  go_enter Try.func52, Try.ntmps52
  go_wp2
  go_loopw [5, 6, 7, 8] (fun o i _ _ wr => ∃ k : Nat, k ≤ n ∧ i = .int .i64 k ∧ Hid (wr.ownsRow w.heap.size 3 1 o k (cI (matTimes d x k))) ∧ Hid (Below w.heap.size w wr)) (fun _ i _ _ _ => n - (intOf i).toNat)
  case atStart => exact ⟨0, Nat.zero_le _, rfl, HOW, HB0⟩
  case round =>
    clear HOW HB0
    obtain ⟨i, hi, rfl, HO, HB⟩ := hrel
    by_cases hlt : i < n
    · obtain ⟨a, Ai, ni, ci, rfl, hab, hci0, hri, _, hmi⟩ := H.out.row hlt
      obtain rfl : ni = m := by have := HM.out.len i (by have := hlen.out; omega); omega
      have HCI := Lib.hid hci0
      have HRI := Lib.hid hri
      have HNU := Lib.hid (HM.out.nums i (by have := hlen.out; omega))
      clear hci0 hri hmi
      obtain ⟨wo, rfl⟩ : ∃ wo : World, wo = wr := ⟨_, rfl⟩
      go_wp2
      go_loopw [7, 8] (fun s kk wr => ∃ (k : Nat) (S : Int), k ≤ ni ∧ kk = .int .i64 k ∧ s = .int .i64 S ∧ 0 ≤ S ∧ S ≤ 112 ∧ Hid (S = dotK (d.getD i []) x k) ∧ Hid (Still wo wr)) (fun _ kk _ => ni - (intOf kk).toNat)
      case atStart => exact ⟨0, 0, Nat.zero_le _, rfl, rfl, by omega, by omega, Lib.hid rfl, Lib.hid (Still.refl _)⟩
      case round =>
        obtain ⟨k, S, hk, rfl, rfl, s0, s1, HS, HW⟩ := hrel
        have HBw : Hid (Below w.heap.size w wr) := Lib.hid (HB.out.trans (HW.out.below _))
        by_cases hlt2 : k < ni
        · have hci := (HBw.out.cell (p := a.add i) (by rw [add_block]; exact hab)).trans HCI.out
          obtain ⟨ar, p, hA, har, hcp0, HP⟩ : ∃ (ar : Addr) (p : Int), Ai = some ar ∧ ar.block < w.heap.size ∧ w.cell? (ar.add k) = some (.int .i64 p) ∧ Hid (p = (d.getD i []).getD k 0) := by
            obtain ⟨A2, n2, c2, e, _, r⟩ := HRI.out
            injection e with e1 e2 e3; subst e1; subst e2; subst e3
            exact r.intAt hlt2
          subst hA
          obtain ⟨ax, q, rfl, hax, hcq0, HQ⟩ := H'.out.intAt hlt2
          have hcp := (HBw.out.cell (p := ar.add k) (by rw [add_block]; exact har)).trans hcp0
          have hcq := (HBw.out.cell (p := ax.add k) (by rw [add_block]; exact hax)).trans hcq0
          clear hcp0 hcq0
          have p0 : 0 ≤ p := by rw [HP.out]; exact (HNU.out k).1
          have p1 : p ≤ 112 := by rw [HP.out]; exact (HNU.out k).2
          have q0 : 0 ≤ q := by rw [HQ.out]; exact (HX.out k).1
          have q1 : q ≤ 112 := by rw [HQ.out]; exact (HX.out k).2
          obtain ⟨t0, t1⟩ := mul_bd p q p0 p1 q0 q1
          have HS2 : Hid ((S + p * q) % 113 = dotK (d.getD i []) x (k + 1)) := Lib.hid (by rw [dotK, ← HS.out, ← HP.out, ← HQ.out])
          have i0 : (0 : Int) ≤ (i : Int) := by omega
          have i1 : (i : Int) < (n : Int) := by omega
          have i2 : (0 : Int) ≤ (k : Int) := by omega
          have i3 : (k : Int) < (ni : Int) := by omega
          have iw : IntKind.i64.wrap (p * q) = p * q := IntWalk.i64_in _ (by omega)
          have iw2 : IntKind.i64.wrap (S + p * q) = S + p * q := IntWalk.i64_in _ (by omega)
          have im : (S + p * q).tmod 113 = (S + p * q) % 113 := Int.tmod_eq_emod_of_nonneg (by omega)
          clear HS HBw
          go_wp2
          go_quiet (fail)
          clear iw iw2 im
          go_wp2
          go_roundw
          case rel => exact ⟨k + 1, _, by omega, by go_num, rfl, by omega, by omega, HS2, Lib.hid (HW.out.drewN _)⟩
          case measure => simp [intOf] <;> omega
        · have HS2 : Hid (S = dotK (d.getD i []) x x.length) := Lib.hid (by rw [hlx.out, HS.out, show k = ni by omega])
          have HOr : Hid (wr.ownsRow w.heap.size 3 1 u5 i (cI (matTimes d x i))) := Lib.hid (by
            obtain ⟨q, hq⟩ := HW.out; rw [hq]; exact HO.out)
          have HOa := Lib.hid (HOr.out.alloc (.cells #[.int .i64 S] 3))
          have HRa : Hid (Rd (wr.alloc (.cells #[.int .i64 S] 3)) (wr.heap.size + 1) 1 (some ⟨wr.heap.size, 0, none⟩) 1 (cI [S])) := Lib.hid (by
            have := (Ow.new wr #[.int .i64 S] 3 1 1 rfl).rd; exact this)
          have hz := HBw.out.size
          clear HS HOr
          go_wp2_with (at_builtin; refine wpList_append_rd rfl (.tmp 37) (.tmp 39) _ rfl w.heap.size 3 _ 1 8 Try.underlying27 info_int rfl (by decide) u5 i (cI (matTimes d x i)) rfl HOa.out _ _ 1 1 (cI [S]) rfl HRa.out (cI_one _) (by unfold maxLen; omega) (by omega) (by simp; omega) ?_; intro v1 w1 hown hg hat; have HOWN := Lib.hid hown; have HG := Lib.hid hg; clear hown hg hat)
          have HO2 : Hid (w1.ownsRow w.heap.size 3 1 v1 (i + 1) (cI (matTimes d x (i + 1)))) := Lib.hid (by
            rw [matTimes_succ, cI_append, ← HS2.out]; exact HOWN.out)
          have HB2 : Hid (Below w.heap.size w w1) := Lib.hid (below_append (HBw.out.alloc hz _) HG.out (own_block HOa.out) (by simp; omega))
          clear HOWN HG HOa HRa
          go_roundw
          case rel => exact ⟨i + 1, by omega, by go_num, HO2, HB2⟩
          case measure => simp [intOf] <;> omega
    · have hkn : i = n := by omega
      have HO2 : Hid (OwIntS wr w.heap.size wr.heap.size u5 (matTimes d x n)) := Lib.hid (by
        have h1 := HO.out
        rw [hkn] at h1
        exact own_done rfl h1 (by omega))
      clear HO hkn
      go_wp2
      go_ret
      exact ⟨_, rfl, HO2.out, HB.out⟩
end Go.Proofs.Ytbnobkojkfmccaa
