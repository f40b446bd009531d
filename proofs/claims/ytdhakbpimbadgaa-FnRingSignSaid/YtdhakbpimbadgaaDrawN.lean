/- Numbers, as the plain laws draw them (out of XDraw14). -/
import Derived.Test.YtdhakbpimbadgaaDrawG
import Derived.Test.YtdhakbpimbadgaaAppend
namespace Go.Proofs.Ytdhakbpimbadgaa
open Go.RowKit
set_option maxRecDepth 100000

set_option maxHeartbeats 2000000 in
theorem d_l91NumsL (g hi p : Nat) (A : Option Addr) (n c : Nat) (bs : List Int) (N : Int) (w : World) (h : Rdr w g hi p A n c bs) (hp : p < 900000) (N0 : 0 ≤ N) (N1 : N ≤ 100) :
    Calls Try.prog 102 #[.pointer (some ⟨g, 0, none⟩), .int .i64 N] w fun e w' => ∃ v d q, e = .returned v ∧ OwIntS w' w.heap.size w'.heap.size v d ∧ ((d.length : Int) = N) ∧ q ≤ p + 500 ∧ Rdr w' g hi q A n c bs ∧ Kept g (g + 1) w w' := by
  obtain ⟨M, rfl⟩ := Int.eq_ofNat_of_zero_le N0
  have hM : M ≤ 100 := by omega
  have HG := Lib.hid h.lt
  have H0 := Lib.hid (h.alloc (.cells #[] 3))
  have K0 := Lib.hid (kept_alloc g (g + 1) w (.cells #[] 3))
  have O0 : Hid ((w.alloc (.cells #[] 3)).ownsRow w.heap.size 3 1 (.slice (some ⟨w.heap.size, 0, none⟩) 0 0) 0 (cI [])) := Lib.hid (own_empty w _ 1)
  clear h
  go_enter Try.func102, Try.ntmps102
  go_wp2
  go_loopw [5, 6] (fun out i wr => ∃ (k : Nat) (Ao : Option Addr) (co q : Nat) (zs : List Int), k ≤ M ∧ q ≤ p + 5 * k ∧ i = .int .i64 k ∧ out = .slice Ao k co ∧ Hid (wr.ownsRow w.heap.size 3 1 (.slice Ao k co) k (cI zs)) ∧ Hid (Rdr wr g hi q A n c bs) ∧ Hid (Kept g (g + 1) w wr)) (fun _ i _ => M - (intOf i).toNat)
  case atStart => exact ⟨0, _, 0, p, [], Nat.zero_le _, by omega, rfl, rfl, O0, H0, K0⟩
  case round =>
    clear O0 H0 K0
    obtain ⟨k, Ao, co, q, zs, hk, hq, rfl, rfl, HO, HR, HK⟩ := hrel
    by_cases hlt : k < M
    · have i1 : (k : Int) < (M : Int) := by omega
      go_wp2_with fail
      refine (d_l91Num _ _ _ _ _ _ _ _ HR.out (by omega)).mono ?_
      rintro e w2 ⟨y, q2, rfl, _, hq2, h2, k2⟩
      have HO2 := Lib.hid (own_keptH HO.out k2 HG.out)
      have HR2 := Lib.hid h2
      have HK2 := Lib.hid (HK.out.trans k2)
      clear h2 k2 HO HR HK
      have hzw := HK2.out.size
      have HL : Hid (Rd (w2.alloc (.cells #[.int .i64 y] 3)) (w2.heap.size + 1) 1 (some ⟨w2.heap.size, 0, none⟩) 1 (cI [y])) := Lib.hid (lit_at (heap_alloc_new _ _))
      go_wp2_with (at_builtin
                   refine wpList_append_rd rfl (.tmp 13) (.tmp 16) _ rfl w.heap.size 3 _ 1 8 Try.underlying22 info_int rfl (by decide) (.slice Ao k co) k _ rfl (HO2.out.alloc _) _ _ 1 1 (cI [y]) rfl HL.out (cI_one _) (by unfold maxLen; omega) (by omega) (by simp; omega) ?_
                   intro v6 w6 hown hgr hat
                   obtain ⟨A6, c6, hv6, ho6⟩ := Ow.of_own hown
                   subst hv6
                   have HO6 : Hid (w6.ownsRow w.heap.size 3 1 (.slice A6 (k + 1) c6) (k + 1) (cI (zs ++ [y]))) := Lib.hid (by rw [cI_app]; exact hown)
                   have HG6 := grow_any HO2.out HR2.out HK2.out HG.out hgr
                   have HR6 := Lib.hid HG6.1
                   have HK6 := Lib.hid HG6.2
                   clear HG6 hown hgr hat ho6)
      go_roundw
      case rel => exact ⟨k + 1, A6, c6, _, _, by omega, by omega, by go_num, rfl, HO6, HR6, HK6⟩
      case measure => simp [intOf] <;> omega
    · obtain rfl : M = k := by omega
      have HD := Lib.hid (done_i HO.out (by omega))
      go_wp2
      go_ret
      exact ⟨_, _, _, rfl, HD.out.1, by rw [HD.out.2], by omega, HR.out, HK.out⟩
end Go.Proofs.Ytdhakbpimbadgaa
