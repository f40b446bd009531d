/- Lists of lists of ints: marks asked for, sizes; as whole values. -/
import Derived.Test.YtipdflbnnmghdaaSS
namespace Go.Proofs.Ytipdflbnnmghdaa
open Go.RowKit
set_option maxHeartbeats 400000 in
theorem l_szIntS (A : Option Addr) (n c : Nat) (left : Int) (w : World) (hn : n ≤ 9223372036854775807) (hl : 0 ≤ left) (hl2 : left ≤ 1048576) :
    Calls Try.prog 65 #[.slice A n c, .int .i64 left] w fun e w' => e = .returned (.int .i64 (if (n : Int) ≤ left then left - n else -1)) ∧ w = w' := by
  by_cases h : (n : Int) ≤ left
  all_goals
    go_enter Try.func65, Try.ntmps65
    go_wp2
    go_ret
    exact ⟨rfl, rfl⟩

/-- the size: the rows and all that they hold -/
def szIntSS (d : List (List Int)) : Nat := d.length + lensK d d.length

/-! as whole values -/
def RdIntSS (w : World) (hi : Nat) (v : Value) (d : List (List Int)) : Prop := ∃ A n c vs, v = .slice A n c ∧ n ≤ 9223372036854775807 ∧ RdR w hi A n vs d
def OwIntSS (w : World) (lo hi : Nat) (v : Value) (d : List (List Int)) : Prop := szIntSS d ≤ 1048576 ∧ ∃ A n c vs, v = .slice A n c ∧ OwR w lo hi A n c vs d
section
variable {w w' : World} {lo hi lo' hi' B mid : Nat} {v : Value} {d : List (List Int)}
theorem RdIntSS.below (h : RdIntSS w hi v d) (hb : Below hi w w') : RdIntSS w' hi v d := by
  obtain ⟨A, n, c, vs, rfl, hn, r⟩ := h; exact ⟨A, n, c, vs, rfl, hn, r.keep hb⟩
theorem RdIntSS.more (h : RdIntSS w hi v d) (hh : hi ≤ hi') : RdIntSS w hi' v d := by
  obtain ⟨A, n, c, vs, rfl, hn, r⟩ := h; exact ⟨A, n, c, vs, rfl, hn, r.more hh⟩
theorem OwIntSS.small (h : OwIntSS w lo hi v d) : szIntSS d ≤ 1048576 := h.1
theorem OwIntSS.rd (h : OwIntSS w lo hi v d) : RdIntSS w hi v d := by
  obtain ⟨hs, A, n, c, vs, rfl, r⟩ := h
  exact ⟨A, n, c, vs, rfl, by have := r.2.1; unfold szIntSS at hs; omega, r.rd⟩
theorem OwIntSS.below (h : OwIntSS w lo hi v d) (hb : Below B w w') (hz : hi ≤ B) : OwIntSS w' lo hi v d := by
  obtain ⟨hs, A, n, c, vs, rfl, r⟩ := h; exact ⟨hs, A, n, c, vs, rfl, r.below hb hz⟩
theorem OwIntSS.kept (h : OwIntSS w lo hi v d) (hk : Kept lo' mid w w') (hz : hi ≤ w.heap.size) (hd : mid ≤ lo ∨ hi ≤ lo') : OwIntSS w' lo hi v d := by
  obtain ⟨hs, A, n, c, vs, rfl, r⟩ := h; exact ⟨hs, A, n, c, vs, rfl, r.kept hk hz hd⟩
theorem OwIntSS.widen (h : OwIntSS w lo hi v d) (h1 : lo' ≤ lo) (h2 : hi ≤ hi') : OwIntSS w lo' hi' v d := by
  obtain ⟨hs, A, n, c, vs, rfl, r⟩ := h; exact ⟨hs, A, n, c, vs, rfl, r.widen h1 h2⟩
end
theorem OwIntSS.nil_ (w : World) (lo hi : Nat) : OwIntSS w lo hi (.slice none 0 0) [] := ⟨by simp [szIntSS, lensK], none, 0, 0, [], rfl, ⟨by simp, Nat.le_refl _, .inl rfl⟩, rfl, fun i hi => by omega, fun i j hi => by omega⟩

theorem mk_lens (K : Int) (d : List (List Int)) (k : Nat) (h : k ≤ d.length) : lensK (mkIntSS K d) k = lensK d k := by
  induction k with
  | zero => rfl
  | succ k ih => rw [lensK, lensK, ih (by omega), mkIntSS_get _ _ _ (by omega), mkRow_len]
theorem mk_sz (K : Int) (d : List (List Int)) : szIntSS (mkIntSS K d) = szIntSS d := by unfold szIntSS; rw [mkIntSS_length, mk_lens _ _ _ (Nat.le_refl _)]
end Go.Proofs.Ytipdflbnnmghdaa
