/- Chapter 2 as the laws meet it. -/
import Derived.Test.YtpdkkfbnfjfmhaaFaceI
import Derived.Test.YtpdkkfbnfjfmhaaWalk2c
namespace Go.Proofs.Ytpdkkfbnfjfmhaa
open Go.RowKit
set_option maxRecDepth 100000

theorem X_s_PolyOk (v : Value) (d : List Int) (w : World) (h : RdIntS w w.heap.size v d) (hs : szIntS d ≤ 1048576) :
    Calls Try.prog 9 #[v] w fun e w' => e = .returned (.bool (polyB d)) ∧ Below w.heap.size w w' := by
  obtain ⟨A, n, c, rfl, _, r⟩ := h
  exact (s_PolyOk A n c d w r (by have := r.len; unfold szIntS at hs; omega)).mono fun e w' ⟨he, hw⟩ => ⟨he, hw ▸ Below.refl _ _⟩
theorem X_i_PolyOk (v : Value) (d : List Int) (w : World) (h : RdIntS w w.heap.size v d) (hs : szIntS d ≤ 1048576) :
    Calls Try.prog 11 #[v] w fun e w' => e = .returned (.bool (polyB d)) ∧ Below w.heap.size w w' := by
  obtain ⟨A, n, c, rfl, _, r⟩ := h
  exact (i_PolyOk A n c d w r (by have := r.len; unfold szIntS at hs; omega)).mono fun e w' ⟨he, hw⟩ => ⟨he, hw ▸ Below.refl _ _⟩

theorem X_s_PolyAt (v : Value) (d : List Int) (x : Int) (w : World) (h : RdIntS w w.heap.size v d) (hs : szIntS d ≤ 1048576) :
    Calls Try.prog 13 #[v, .int .i64 x] w fun e w' => e = .returned (.tuple #[.int .i64 (polyAtV d x), .bool (polyAtB d x)]) ∧ Below w.heap.size w w' := by
  obtain ⟨A, n, c, rfl, _, r⟩ := h
  exact (s_PolyAt A n c d x w r (by have := r.len; unfold szIntS at hs; omega)).mono fun e w' ⟨he, hw⟩ => ⟨he, hw ▸ Below.refl _ _⟩
theorem X_i_PolyAt (v : Value) (d : List Int) (x : Int) (w : World) (h : RdIntS w w.heap.size v d) (hs : szIntS d ≤ 1048576) :
    Calls Try.prog 14 #[v, .int .i64 x] w fun e w' => e = .returned (.tuple #[.int .i64 (polyAtV d x), .bool (polyAtB d x)]) ∧ Below w.heap.size w w' := by
  obtain ⟨A, n, c, rfl, _, r⟩ := h
  exact (i_PolyAt A n c d x w r (by have := r.len; unfold szIntS at hs; omega)).mono fun e w' ⟨he, hw⟩ => ⟨he, hw.below _⟩
end Go.Proofs.Ytpdkkfbnfjfmhaa
