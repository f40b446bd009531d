/- Chapter 2: the polynomial through points, the model's way. Made by gen2n.py. -/
import Derived.Test.YtipdflbnnmghdaaWalk2m
namespace Go.Proofs.Ytipdflbnnmghdaa
open Go.RowKit
set_option maxRecDepth 100000

theorem OwIntS.nc {w : World} {lo hi n c : Nat} {A : Option Addr} {d : List Int} (h : OwIntS w lo hi (.slice A n c) d) : n ≤ c ∧ n = d.length := by
  obtain ⟨_, A', n', c', e, r⟩ := h
  injection e with e1 e2 e3
  subst e1; subst e2; subst e3
  exact ⟨r.2.1, r.len.symm⟩
theorem nums_trim2 {a b : Int} (h0 : 0 ≤ a) (h1 : a ≤ 112) (h2 : 0 ≤ b) (h3 : b ≤ 112) : Nums (trimL [a, b]) := nums_trim (nums_two h0 h1 h2 h3)
theorem trim2_len (a b : Int) : (trimL [a, b]).length ≤ 2 := trimL_len _

end Go.Proofs.Ytipdflbnnmghdaa
