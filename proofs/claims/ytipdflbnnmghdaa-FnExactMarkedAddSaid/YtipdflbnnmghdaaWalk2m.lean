/- Chapter 2: the polynomial through points, the program's way. -/
import Derived.Test.YtipdflbnnmghdaaWalk2l
namespace Go.Proofs.Ytipdflbnnmghdaa
open Go.RowKit
set_option maxRecDepth 100000

theorem quiet_still {P : Program} {f : FuncId} {args : Array Value} {w : World} {a : Nat} {v : Value} (h : Calls P f args (w.drewN a) fun e w' => e = .returned v ∧ Still (w.drewN a) w') : Calls P f args (w.drewN a) fun e w'' => e = .returned v ∧ ∃ m, w'' = w.drewN m :=
  h.mono fun _ _ ⟨he, d, hd⟩ => ⟨he, a + d, by rw [hd, World.drewN_drewN]⟩
/-- an owned list opened -/
theorem OwIntS.open {w : World} {lo hi : Nat} {v : Value} {d : List Int} (h : OwIntS w lo hi v d) : ∃ A n c, v = .slice A n c ∧ n = d.length ∧ n ≤ c ∧ Ow w lo hi 3 1 A n c (cI d) := by
  obtain ⟨_, A, n, c, rfl, r⟩ := h
  exact ⟨A, n, c, rfl, r.len.symm, r.2.1, r⟩
theorem OwIntS.rdw {w : World} {lo : Nat} {A : Option Addr} {n c : Nat} {d : List Int} (h : OwIntS w lo w.heap.size (.slice A n c) d) : Rd w w.heap.size 1 A n (cI d) := by
  obtain ⟨_, A', n', c', e, r⟩ := h
  injection e with e1 e2 e3
  subst e1; subst e2; subst e3
  exact r.rd
theorem lit_own (w : World) (xs : List Int) (n : Nat) (h : xs.length = n) (hn : n ≤ 1048576) : OwIntS (w.alloc (.cells (cI xs).toArray 3)) w.heap.size (w.heap.size + 1) (.slice (some ⟨w.heap.size, 0, none⟩) n n) xs := by
  have := Ow.new w (cI xs).toArray 3 1 n (by simp [cI_length, h])
  exact ⟨by omega, _, _, _, rfl, by simpa using this⟩

end Go.Proofs.Ytipdflbnnmghdaa
