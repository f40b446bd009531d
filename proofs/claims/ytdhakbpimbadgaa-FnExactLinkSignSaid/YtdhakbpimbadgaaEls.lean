/- Lists of elements: elementsOk of the program. -/
import Derived.Test.YtdhakbpimbadgaaWalk1b
import Derived.Test.YtdhakbpimbadgaaWalk2a
namespace Go.Proofs.Ytdhakbpimbadgaa
open Go.RowKit
set_option maxRecDepth 100000

def elsB (zs : List Int) : Bool := zs.all elB
theorem elsB_bad (zs : List Int) (k : Nat) (hk : k < zs.length) (h : elB (zs.getD k 0) = false) : elsB zs = false := by
  apply Bool.eq_false_iff.2
  intro ht
  unfold elsB at ht
  rw [List.all_eq_true] at ht
  have := ht _ (List.getElem_mem hk)
  rw [← getD_of zs k hk, h] at this; cases this
theorem elsB_take (zs : List Int) (k : Nat) (hk : k < zs.length) : elsB (zs.take (k + 1)) = (elsB (zs.take k) && elB (zs.getD k 0)) := by
  unfold elsB
  rw [take_snocD _ _ hk, List.all_append]; simp
theorem elsB_all (zs : List Int) : elsB (zs.take zs.length) = elsB zs := by rw [List.take_length]
theorem elsB_at {zs : List Int} (h : elsB zs = true) {k : Nat} (hk : k < zs.length) : 1 ≤ zs.getD k 0 ∧ zs.getD k 0 ≤ 226 := by
  unfold elsB at h
  rw [List.all_eq_true] at h
  have := h _ (List.getElem_mem hk)
  rw [← getD_of zs k hk] at this
  exact elB_range this

set_option maxHeartbeats 400000 in
theorem i_elementsOk (A : Option Addr) (n c : Nat) (zs : List Int) (w : World) (h : Rd w w.heap.size 1 A n (cI zs)) (hn : n ≤ 1048576) :
    Calls Try.prog 84 #[.slice A n c] w fun e w' => e = .returned (.bool (elsB zs)) ∧ w = w' := by
  have hlen : Hid (zs.length = n) := Lib.hid h.len
  have H := Lib.hid h
  clear h
  go_enter Try.func84, Try.ntmps84
  go_wp2
  go_loop [7] (fun i => ∃ k : Nat, k ≤ n ∧ i = .int .i64 k ∧ Hid (elsB (zs.take k) = true)) (fun i => n - (intOf i).toNat)
  case atStart => exact ⟨0, Nat.zero_le _, rfl, Lib.hid rfl⟩
  case round =>
    obtain ⟨k, hk, rfl, HK⟩ := hrel
    by_cases hlt : k < n
    · obtain ⟨a, z, rfl, hab, hc, HZ⟩ := H.out.intAt hlt
      cases hb : elB z
      · have HF : Hid (false = elsB zs) := Lib.hid (elsB_bad zs k (by have := hlen.out; omega) (by rw [← HZ.out, hb])).symm
        go_wp2_with fail
        refine (i_ElementOk _ _).mono ?_
        rintro e w' ⟨rfl, rfl⟩
        rw [hb]
        go_wp2
        go_ret
        exact ⟨ret_bool HF.out, rfl⟩
      · have HK2 : Hid (elsB (zs.take (k + 1)) = true) := Lib.hid (by rw [elsB_take zs k (by have := hlen.out; omega), HK.out, ← HZ.out, hb]; rfl)
        clear HK
        go_wp2_with fail
        refine (i_ElementOk _ _).mono ?_
        rintro e w' ⟨rfl, rfl⟩
        rw [hb]
        go_wp2
        go_round
        case rel => exact ⟨k + 1, by omega, by go_num, HK2⟩
        case measure => simp [intOf] <;> omega
    · have HF : Hid (true = elsB zs) := Lib.hid (by rw [← elsB_all, ← HK.out, hlen.out, show k = n by omega])
      go_wp2
      go_ret
      exact ⟨ret_bool HF.out, rfl⟩
end Go.Proofs.Ytdhakbpimbadgaa
