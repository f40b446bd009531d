/- Comparisons of lists in the plain laws. Made by tools/plain/p10.py. -/
import Derived.Test.YtlajhgnlllelfaaDraw14
namespace Go.Proofs.Ytlajhgnlllelfaa
open Go.RowKit
set_option maxRecDepth 100000
set_option maxHeartbeats 400000 in
theorem u_uvIntsQ2 (A A' : Option Addr) (n c c' : Nat) (d : List Int) (w : World) (h : Rd w w.heap.size 1 A n (cI d)) (h' : Rd w w.heap.size 1 A' n (cI d)) (hn : n ≤ 1048576) :
    Calls Try.prog 36 #[.slice A n c, .slice A' n c'] w fun e w' => e = .returned (.bool true) ∧ ∃ m, w' = w.drewN m := by
  have H := Lib.hid h
  have H' := Lib.hid h'
  clear h h'
  go_enter Try.func36, Try.ntmps36
  go_wp2
  go_loopw [5] (fun i wr => ∃ k m : Nat, k ≤ n ∧ i = .int .i64 k ∧ wr = w.drewN m) (fun i _ => n - (intOf i).toNat)
  case atStart => exact ⟨0, 0, Nat.zero_le _, rfl, rfl⟩
  case round =>
    obtain ⟨k, m, hk, rfl, rfl⟩ := hrel
    by_cases hlt : k < n
    · obtain ⟨a, x, rfl, hab, hx, HP⟩ := H.out.intAt hlt
      obtain ⟨a', x', rfl, hab', hx', HP'⟩ := H'.out.intAt hlt
      obtain rfl : x' = x := by rw [HP.out, HP'.out]
      have i0 : (0 : Int) ≤ (k : Int) := by omega
      have i1 : (k : Int) < (n : Int) := by omega
      clear HP HP'
      go_wp2
      go_quiet (fail)
      go_wp2
      go_roundw
      case rel => exact ⟨k + 1, _, by omega, by go_num, rfl⟩
      case measure => simp [intOf] <;> omega
    · go_wp2
      go_ret
      exact ⟨rfl, _, rfl⟩

theorem U_uvInts2 (hi hi' : Nat) (v v' : Value) (d : List Int) (w : World) (h : RdIntS w hi v d) (h' : RdIntS w hi' v' d) (hh : hi ≤ w.heap.size) (hh' : hi' ≤ w.heap.size) (hs : szIntS d ≤ 1048576) :
    Calls Try.prog 36 #[v, v'] w fun e w' => e = .returned (.bool true) ∧ Below w.heap.size w w' := by
  obtain ⟨A, n, c, rfl, _, r⟩ := h
  obtain ⟨A', n', c', rfl, _, r'⟩ := h'
  have hl := r.len
  have hl' := r'.len
  obtain rfl : n' = n := by omega
  unfold szIntS at hs
  exact (u_uvIntsQ2 A A' _ c c' d w (r.more hh) (r'.more hh') (by omega)).mono fun _ _ ⟨he, m, hm⟩ => ⟨he, by rw [hm]; exact below_drewN (Below.refl _ _) _⟩
theorem rdI_d {w : World} {v : Value} {d : List Int} (h : RdIntS w w.heap.size v d) : RdIntS w.drew w.drew.heap.size v d := h.below (below_drewN (Below.refl _ _) 1)
end Go.Proofs.Ytlajhgnlllelfaa
