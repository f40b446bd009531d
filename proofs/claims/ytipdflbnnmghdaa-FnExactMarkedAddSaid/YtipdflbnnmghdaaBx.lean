/- A block that the call itself made and that holds known cells: a boxed struct, a variable. -/
import Derived.Test.YtipdflbnnmghdaaFGate
import Derived.Test.YtipdflbnnmghdaaSS2
import Derived.Test.YtipdflbnnmghdaaBx0
namespace Go.Proofs.Ytipdflbnnmghdaa
open Go.RowKit
set_option maxRecDepth 100000

theorem L_szIntS_ok (hi : Nat) (v : Value) (d : List Int) (left : Int) (w : World) (h : RdIntS w hi v d) (hl0 : 0 ≤ left) (hl1 : left ≤ 1048576) (hl : (szIntS d : Nat) ≤ left) :
    Calls Try.prog 65 #[v, .int .i64 left] w fun e w' => ∃ L', e = .returned (.int .i64 L') ∧ Hid (L' = left - szIntS d) ∧ 0 ≤ L' ∧ L' ≤ left ∧ Below w.heap.size w w' := by
  obtain ⟨A, n, c, rfl, hn, r⟩ := h
  have hn2 := r.len
  unfold szIntS at hl
  refine (l_szIntS A n c left w hn hl0 hl1).mono fun e w' ⟨he, hw⟩ => ⟨_, he, Lib.hid ?_, ?_, ?_, hw ▸ Below.refl _ _⟩
  · rw [if_pos (by omega)]; unfold szIntS; omega
  · rw [if_pos (by omega)]; omega
  · rw [if_pos (by omega)]; omega
theorem L_szIntS_no (hi : Nat) (v : Value) (d : List Int) (left : Int) (w : World) (h : RdIntS w hi v d) (hl0 : 0 ≤ left) (hl1 : left ≤ 1048576) (hl : left < (szIntS d : Nat)) :
    Calls Try.prog 65 #[v, .int .i64 left] w fun e w' => e = .returned (.int .i64 (-1)) ∧ Below w.heap.size w w' := by
  obtain ⟨A, n, c, rfl, hn, r⟩ := h
  have hn2 := r.len
  unfold szIntS at hl
  refine (l_szIntS A n c left w hn hl0 hl1).mono fun e w' ⟨he, hw⟩ => ⟨?_, hw ▸ Below.refl _ _⟩
  rw [he, if_neg (by omega)]
end Go.Proofs.Ytipdflbnnmghdaa
