/- Chapter 4: shares that are good; SharesJoin, in the model and in the program. -/
import Derived.Test.YtpaaimmakkfbkaaFace2d
namespace Go.Proofs.Ytpaaimmakkfbkaa
open Go.RowKit
set_option maxRecDepth 100000

/-- the first k have X from 1 to top -/
def xsK (ps : List (Int × Int)) (top : Int) : Nat → Bool
  | 0 => true
  | k + 1 => xsK ps top k && (decide (1 ≤ px ps k) && decide (px ps k ≤ top))
theorem xsK_mono {ps : List (Int × Int)} {top : Int} {k n : Nat} (h : xsK ps top n = true) (hk : k ≤ n) : xsK ps top k = true := by
  induction n with
  | zero => rw [show k = 0 by omega]; rfl
  | succ n ih =>
    by_cases hc : k = n + 1
    · rw [hc]; exact h
    · exact ih (by simp only [xsK, Bool.and_eq_true] at h; exact h.1) (by omega)
theorem xsK_bad {ps : List (Int × Int)} {top : Int} {k n : Nat} (h : xsK ps top (k + 1) = false) (hk : k < n) : xsK ps top n = false := by
  apply Bool.eq_false_iff.2
  intro ht
  rw [xsK_mono ht (show k + 1 ≤ n by omega)] at h; cases h
theorem xsK_at {ps : List (Int × Int)} {top : Int} {k n : Nat} (h : xsK ps top n = true) (hk : k < n) : 1 ≤ px ps k ∧ px ps k ≤ top := by
  have := xsK_mono h (show k + 1 ≤ n by omega)
  simp only [xsK, Bool.and_eq_true, decide_eq_true_eq] at this
  exact this.2
theorem ret_tib {a b : Int} {c d : Bool} (h1 : a = b) (h2 : c = d) : Ending.returned (.tuple #[.int .i64 a, .bool c]) = .returned (.tuple #[.int .i64 b, .bool d]) := by rw [h1, h2]
def shB (ps : List (Int × Int)) (top : Int) : Bool := ptsB ps && xsK ps top ps.length
theorem shB_good {ps : List (Int × Int)} {n : Nat} (hl : ps.length = n) (h : ptsB ps = true) : Good ps n ∧ n ≤ 20 := by
  simp only [ptsB, Bool.and_eq_true, decide_eq_true_eq] at h
  exact ⟨by rw [← hl]; exact Good.of h.2, by omega⟩

set_option maxHeartbeats 1000000 in
theorem i_sharesOk (A : Option Addr) (n c : Nat) (ps : List (Int × Int)) (top : Int) (w : World) (h : Rd w w.heap.size 2 A n (cP ps)) (hn : n ≤ 1048576) :
    Calls Try.prog 22 #[.slice A n c, .int .i64 top] w fun e w' => e = .returned (.bool (shB ps top)) ∧ Below w.heap.size w w' := by
  have hlen := Lib.hid h.plen
  have H := Lib.hid h
  clear h
  cases hp : ptsB ps
  · have HF : Hid (false = shB ps top) := Lib.hid (by simp [shB, hp])
    go_enter Try.func22, Try.ntmps22
    go_wp2_with fail
    refine (i_pointsOk _ _ _ _ _ H.out hn).mono ?_
    rintro e w1 ⟨rfl, hb⟩
    have HB := Lib.hid hb
    clear hb
    rw [hp]
    go_wp2
    go_ret
    exact ⟨ret_bool HF.out, HB.out⟩
  · have HB0 : Hid (shB ps top = xsK ps top n) := Lib.hid (by unfold shB; rw [hp, hlen.out]; rfl)
    have HG := Lib.hid (shB_good hlen.out hp).1
    go_enter Try.func22, Try.ntmps22
    go_wp2_with fail
    refine (i_pointsOk _ _ _ _ _ H.out hn).mono ?_
    rintro e w1 ⟨rfl, hb⟩
    have HB := Lib.hid hb
    clear hb
    rw [hp]
    go_wp2
    go_loopw [12] (fun i wr => ∃ k : Nat, k ≤ n ∧ i = .int .i64 k ∧ Hid (xsK ps top k = true) ∧ Hid (Below w.heap.size w wr)) (fun i _ => n - (intOf i).toNat)
    case atStart => exact ⟨0, Nat.zero_le _, rfl, Lib.hid rfl, HB⟩
    case round =>
      clear HB
      obtain ⟨k, hk, rfl, HK, HS⟩ := hrel
      by_cases hlt : k < n
      · obtain ⟨a, x, y, rfl, hab, hx0, hy0, HP⟩ := H.out.ptAt hlt
        have hx := (HS.out.cell (p := a.add (k * 2)) (by rw [add_block]; exact hab)).trans hx0
        have hy := (HS.out.cell (p := ⟨(a.add (k * 2)).block, (a.add (k * 2)).off + 1, none⟩) (by rw [add_block]; exact hab)).trans hy0
        have HXY : Hid (px ps k = x) := Lib.hid (by unfold px; rw [HP.out])
        have hxr := HG.out.x0 k hlt
        rw [HXY.out] at hxr
        have HXR := Lib.hid hxr
        clear hx0 hy0
        have HSa := Lib.hid (HS.out.alloc HS.out.size (.cells #[.int .i64 x, .int .i64 y] 46))
        clear HS hxr
        have i0 : (0 : Int) ≤ (k : Int) := by omega
        have i1 : (k : Int) < (n : Int) := by omega
        by_cases h0 : x = 0
        · have HF : Hid (false = shB ps top) := Lib.hid (by
            rw [HB0.out, xsK_bad (k := k) (by rw [xsK, HXY.out, h0]; simp) hlt])
          have hb0 : (x == 0) = true := by simp [h0]
          clear h0
          go_wp2
          go_ret
          exact ⟨ret_bool HF.out, HSa.out⟩
        · have hb0 : (x == 0) = false := by simp [h0]
          by_cases ht : top < x
          · have HF : Hid (false = shB ps top) := Lib.hid (by
              rw [HB0.out, xsK_bad (k := k) (by rw [xsK, HXY.out, show decide (x ≤ top) = false from decide_eq_false (by omega)]; simp) hlt])
            clear h0
            go_wp2
            go_ret
            exact ⟨ret_bool HF.out, HSa.out⟩
          · have HK2 : Hid (xsK ps top (k + 1) = true) := Lib.hid (by
              have := HXR.out
              rw [xsK, HK.out, HXY.out, show decide (x ≤ top) = true from decide_eq_true (by omega), show decide (1 ≤ x) = true from decide_eq_true (by omega)]; rfl)
            have ht2 : decide (top < x) = false := decide_eq_false ht
            clear h0
            go_wp2
            go_roundw
            case rel => exact ⟨k + 1, by omega, by go_num, HK2, HSa⟩
            case measure => simp [intOf] <;> omega
      · have HF : Hid (true = shB ps top) := Lib.hid (by rw [HB0.out, ← HK.out, show k = n by omega])
        go_wp2
        go_ret
        exact ⟨ret_bool HF.out, HS.out⟩

def joinB (d : List (Int × Int)) : Bool := decide (0 < d.length) && shB d 112
def joinI (d : List (Int × Int)) : Int := if joinB d = true then atI (thrS d d.length d.length) 0 else 0
theorem joinI_no {d : List (Int × Int)} (h : joinB d = false) : joinI d = 0 := by simp [joinI, h]

end Go.Proofs.Ytpaaimmakkfbkaa
