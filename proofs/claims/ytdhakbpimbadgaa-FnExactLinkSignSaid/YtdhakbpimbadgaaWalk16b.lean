/- Chapter 16: sums of challenges; each good. Made by tools/gen15/b.py. -/
import Derived.Test.YtdhakbpimbadgaaWalk15b
import Derived.Test.YtdhakbpimbadgaaFTwin
namespace Go.Proofs.Ytdhakbpimbadgaa
open Go.RowKit
set_option maxRecDepth 100000
theorem inv_tw (n : Nat) (a b c d : Value) (W : World) : (method (n + 1) 76 (.agg #[a, b, c, d]) "loop.example/underveil/impl.answer").run Try.prog W = .ok (138, .agg #[a, b, c, d]) W := by kernel_rfl

set_option maxHeartbeats 2000000 in
theorem i_chalOf_Twin (A : Option Addr) (n c : Nat) (l : List Tw) (w : World) (h : Rd w w.heap.size 4 A n (cTwin l)) (hn : n ≤ 1048576) (hb : ∀ k, k < n → 0 ≤ (l.getD k (0, 0, 0, 0)).2.2.1 ∧ (l.getD k (0, 0, 0, 0)).2.2.1 ≤ 112) :
    Calls Try.prog 109 #[.slice A n c] w fun e w' => e = .returned (.int .i64 (lchalK l n)) ∧ Below w.heap.size w w' := by
  have H := Lib.hid h
  have HN := Lib.hid hb
  clear h hb
  go_enter Try.func109, Try.ntmps109
  go_wp2
  go_loopw [3, 8] (fun s i wr => ∃ (k : Nat) (S : Int), k ≤ n ∧ s = .int .i64 S ∧ i = .int .i64 k ∧ 0 ≤ S ∧ S ≤ 112 ∧ Hid (S = lchalK l k) ∧ Hid (Below w.heap.size w wr)) (fun _ i _ => n - (intOf i).toNat)
  case atStart => exact ⟨0, 0, Nat.zero_le _, rfl, rfl, by omega, by omega, Lib.hid rfl, Lib.hid (Below.refl _ _)⟩
  case round =>
    obtain ⟨k, S, hk, rfl, rfl, s0, s1, HS, HB⟩ := hrel
    by_cases hlt : k < n
    · obtain ⟨a, x, y, z, u, rfl, hab, hcx, hcy, hcz, hcu, HP⟩ := (H.out.below HB.out).TwinAt hlt
      have hyb := HN.out k hlt
      rw [HP.out] at hyb
      have y0 : 0 ≤ z := hyb.1
      have y1 : z ≤ 112 := hyb.2
      clear hyb
      have HS2 : Hid ((S + z) % 113 = lchalK l (k + 1)) := Lib.hid (by unfold lchalK; rw [HP.out, ← HS.out])
      have i0 : (0 : Int) ≤ (k : Int) := by omega
      have i1 : (k : Int) < (n : Int) := by omega
      clear HS HP
      go_wp2_with fail
      rw [inv_tw]
      go_wp2_with fail
      refine (i_Twin_answer x y z u _).mono ?_
      rintro e w2 ⟨rfl, hb2⟩
      have hbs : Below wr.heap.size wr w2 := ((Below.refl _ wr).alloc (Nat.le_refl _) _).trans (hb2.mono (by simp))
      have HB2 : Hid (Below w.heap.size w w2) := Lib.hid (HB.out.trans (hbs.mono HB.out.size))
      clear hb2 hbs HB hcx hcy hcz hcu
      go_wp2_with fail
      rw [field_an]
      go_wp2_with fail
      refine (i_plus S z _ s0 s1 y0 y1).mono ?_
      rintro e w' ⟨rfl, rfl⟩
      go_wp2
      go_roundw
      case rel => exact ⟨k + 1, _, by omega, rfl, by go_num, by omega, by omega, HS2, HB2⟩
      case measure => simp [intOf] <;> omega
    · have HS2 : Hid (S = lchalK l n) := Lib.hid (by rw [HS.out, show k = n by omega])
      clear HS
      go_wp2
      go_ret
      exact ⟨ret_int HS2.out, HB.out⟩

set_option maxHeartbeats 4000000 in
theorem i_eachGood_Twin (F : FuncId) (caps : Array Value) (G : Int → Tw → Bool) (A : Option Addr) (n c : Nat) (zs : List Int) (A' : Option Addr) (n' c' : Nat) (l : List Tw) (w : World) (h : Rd w w.heap.size 1 A n (cI zs)) (h' : Rd w w.heap.size 4 A' n' (cTwin l)) (hn : n ≤ 1048576) (hn' : n' ≤ 1048576)
    (eg : ∀ args W, (callFunc F args).run Try.prog W = .ok (.enter F args) W)
    (hG : ∀ (q x y z u : Int) (W : World), Below w.heap.size w W → Calls Try.prog F (#[.int .i64 q, .agg #[.int .i64 x, .int .i64 y, .int .i64 z, .int .i64 u]] ++ caps) W fun e W' => e = .returned (.bool (G q (x, y, z, u))) ∧ Below W.heap.size W W') :
    Calls Try.prog 79 #[.slice A n c, .slice A' n' c', .func (.func F) #[] caps] w fun e w' => e = .returned (.bool (decide (l.length = zs.length) && gK G (0, 0, 0, 0) zs l zs.length)) ∧ Below w.heap.size w w' := by
  have hlz : Hid (zs.length = n) := Lib.hid h.len
  have hll : Hid (l.length = n') := Lib.hid h'.Twinlen
  have H := Lib.hid h
  have H' := Lib.hid h'
  have HG := Lib.hid hG
  clear h h' hG
  by_cases hnn : n' = n
  rotate_left
  · have HF : Hid (false = (decide (l.length = zs.length) && gK G (0, 0, 0, 0) zs l zs.length)) := Lib.hid (by rw [hlz.out, hll.out]; simp [hnn])
    have e1 : ¬ (n' : Int) = (n : Int) := by omega
    have e2 : ((n' : Int) != (n : Int)) = true := by rw [bne_iff_ne]; exact e1
    clear hnn e1
    go_enter Try.func79, Try.ntmps79
    go_wp2
    go_ret
    exact ⟨ret_bool HF.out, Below.refl _ _⟩
  subst hnn
  have HC : Hid ((decide (l.length = zs.length) && gK G (0, 0, 0, 0) zs l zs.length) = gK G (0, 0, 0, 0) zs l n') := Lib.hid (by rw [hlz.out, hll.out]; simp)
  rw [HC.out]
  clear HC
  go_enter Try.func79, Try.ntmps79
  go_wp2
  go_loopw [16] (fun i wr => ∃ k : Nat, k ≤ n' ∧ i = .int .i64 k ∧ Hid (gK G (0, 0, 0, 0) zs l k = true) ∧ Hid (Below w.heap.size w wr)) (fun i _ => n' - (intOf i).toNat)
  case atStart => exact ⟨0, Nat.zero_le _, rfl, Lib.hid rfl, Lib.hid (Below.refl _ _)⟩
  case round =>
    obtain ⟨k, hk, rfl, HK, HB⟩ := hrel
    by_cases hlt : k < n'
    · obtain ⟨b, q, rfl, hbb, hcq, HQ⟩ := (H.out.below HB.out).intAt hlt
      obtain ⟨a, x, y, z, u, rfl, hab, hcx, hcy, hcz, hcu, HP⟩ := (H'.out.below HB.out).TwinAt hlt
      have i0 : (0 : Int) ≤ (k : Int) := by omega
      have i1 : (k : Int) < (n' : Int) := by omega
      have HE : Hid (G (zs.getD k 0) (l.getD k (0, 0, 0, 0)) = G q (x, y, z, u)) := Lib.hid (by rw [← HQ.out, HP.out])
      clear HQ HP
      go_wp2_with fail
      refine (HG.out q x y z u wr HB.out).mono ?_
      rintro e w2 ⟨rfl, hb2⟩
      have HB2 : Hid (Below w.heap.size w w2) := Lib.hid (HB.out.trans (hb2.mono HB.out.size))
      clear hb2 HB hcq hcx hcy hcz hcu
      cases hg : G q (x, y, z, u)
      · have HF : Hid (false = gK G (0, 0, 0, 0) zs l n') := Lib.hid (gK_no hlt (by rw [HE.out, hg])).symm
        go_wp2
        go_ret
        exact ⟨ret_bool HF.out, HB2.out⟩
      · have HK2 : Hid (gK G (0, 0, 0, 0) zs l (k + 1) = true) := Lib.hid (by unfold gK; rw [HK.out, HE.out, hg]; rfl)
        clear HK
        go_wp2
        go_roundw
        case rel => exact ⟨k + 1, by omega, by go_num, HK2, HB2⟩
        case measure => simp [intOf] <;> omega
    · have HF : Hid (true = gK G (0, 0, 0, 0) zs l n') := Lib.hid (by rw [show n' = k by omega]; exact HK.out.symm)
      clear HK
      go_wp2
      go_ret
      exact ⟨ret_bool HF.out, HB.out⟩
end Go.Proofs.Ytdhakbpimbadgaa
