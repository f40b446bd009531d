/- Chapter 2: zeros at the end. -/
import Derived.Test.YtlagkinamnjnhaaAppend
import Derived.Test.YtlagkinamnjnhaaFaceI
import Derived.Test.YtlagkinamnjnhaaWalk2b
namespace Go.Proofs.Ytlagkinamnjnhaa
open Go.RowKit

theorem lit_done {w1 : World} {B k e : Nat} {v : Value} {ys res : List Int} (he : e = 3) (h : w1.ownsRow B e 1 v (0 + k) ([] ++ cI ys)) (hy : ys = res) (hs : k ≤ 1048576) : OwIntS w1 B w1.heap.size v res := by
  subst he
  subst hy
  rw [Nat.zero_add, List.nil_append] at h
  obtain ⟨A, c, rfl, ho⟩ := Ow.of_own h
  exact ⟨by have := ho.len; omega, A, _, c, rfl, ho⟩
theorem lit_below {w w1 : World} {o : Obj} (hg : (w.alloc o).grownBy w1 (Value.ownBlock (.slice (some ⟨w.heap.size, 0, none⟩) 0 0))) : Below w.heap.size w w1 :=
  ((Below.refl _ _).alloc (Nat.le_refl _) o).grown hg (by simp) (by intro k hk; simp [Value.ownBlock] at hk; omega)

set_option maxHeartbeats 400000 in
theorem s_l2Trim (A : Option Addr) (n c : Nat) (zs : List Int) (w : World) (h : Rd w w.heap.size 1 A n (cI zs)) (hnc : n ≤ c) (hn : n ≤ 1048576) :
    Calls Try.prog 68 #[.slice A n c] w fun e w' => ∃ v, e = .returned v ∧ OwIntS w' w.heap.size w'.heap.size v (trimL zs) ∧ Below w.heap.size w w' := by
  have hlen : Hid (zs.length = n) := Lib.hid h.len
  have H := Lib.hid h
  clear h
  go_enter Try.func68, Try.ntmps68
  go_wp2
  go_loop [3] (fun i => ∃ k : Nat, k ≤ n ∧ i = .int .i64 k ∧ Hid (trimL (zs.take k) = trimL zs)) (fun i => (intOf i).toNat)
  case atStart => exact ⟨n, Nat.le_refl _, rfl, Lib.hid (by rw [List.take_of_length_le (by have := hlen.out; omega)])⟩
  case round =>
    obtain ⟨k, hk, rfl, HI⟩ := hrel
    by_cases h0 : k = 0
    · subst h0
      have HF : Hid (zs.take 0 = trimL zs) := Lib.hid (by rw [← HI.out]; rfl)
      clear HI
      cases A
      all_goals
        have HC := Lib.hid ((H.out.cut (Nat.zero_le n)).below ((Below.refl _ _).alloc (Nat.le_refl _) (.cells #[] 3)))
        go_wp2_with (at_builtin; go_loud (refine wpList_append_rd rfl (.tmp 18) (.tmp 21) _ rfl w.heap.size 3 _ 1 8 Try.underlying23 info_int rfl (by decide) (.slice (some ⟨w.heap.size, 0, none⟩) 0 0) 0 [] rfl (own_empty _ _ _) w.heap.size _ 0 c (cI (zs.take 0)) rfl HC.out (cI_one _) (by unfold maxLen; omega) (by omega) (by simp) ?_; intro v1 w1 hown hg hat; have HO := Lib.hid hown; have HG := Lib.hid hg; clear hown hg hat))
        go_ret
        exact ⟨v1, rfl, lit_done rfl HO.out HF.out (by omega), lit_below HG.out⟩
    · obtain ⟨m, rfl⟩ : ∃ m, k = m + 1 := ⟨k - 1, by omega⟩
      obtain ⟨a, z, rfl, hab, hck, HZ⟩ := H.out.intAt (show m < n by omega)
      by_cases hz : z = 0
      · have hz1 : (z == 0) = true := by rw [hz]; rfl
        have HI2 : Hid (trimL (zs.take m) = trimL zs) := Lib.hid (by
          rw [← HI.out, trimL_down zs m (by have := hlen.out; omega) (HZ.out.symm.trans hz)])
        clear HI hz
        go_wp2
        go_round
        case rel => exact ⟨m, by omega, by go_num, HI2⟩
        case measure => simp [intOf] <;> omega
      · have hz1 : (z == 0) = false := by rw [beq_eq_false_iff_ne]; exact hz
        have HF : Hid (zs.take (m + 1) = trimL zs) := Lib.hid (by
          rw [← HI.out, trimL_stop zs m (by have := hlen.out; omega) (by rw [← HZ.out]; exact hz)])
        clear HI hz
        have HC := Lib.hid ((H.out.cut hk).below ((Below.refl _ _).alloc (Nat.le_refl _) (.cells #[] 3)))
        go_wp2_with (at_builtin; go_loud (refine wpList_append_rd rfl (.tmp 18) (.tmp 21) _ rfl w.heap.size 3 _ 1 8 Try.underlying23 info_int rfl (by decide) (.slice (some ⟨w.heap.size, 0, none⟩) 0 0) 0 [] rfl (own_empty _ _ _) w.heap.size _ (m + 1) c (cI (zs.take (m + 1))) rfl HC.out (cI_one _) (by unfold maxLen; omega) (by omega) (by simp) ?_; intro v1 w1 hown hg hat; have HO := Lib.hid hown; have HG := Lib.hid hg; clear hown hg hat))
        go_ret
        exact ⟨v1, rfl, lit_done rfl HO.out HF.out (by omega), lit_below HG.out⟩
end Go.Proofs.Ytlagkinamnjnhaa
