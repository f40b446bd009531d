/- Lists of ints as whole values: what a law hands from call to call. -/
import Derived.Test.YtpaaimmakkfbkaaHelpI
namespace Go.Proofs.Ytpaaimmakkfbkaa
open Go.RowKit

/-- v reads as the list d, below block hi -/
def RdIntS (w : World) (hi : Nat) (v : Value) (d : List Int) : Prop := ∃ A n c, v = .slice A n c ∧ n ≤ 9223372036854775807 ∧ Rd w hi 1 A n (cI d)
/-- v is the list d in a block of its own between lo and hi -/
def OwIntS (w : World) (lo hi : Nat) (v : Value) (d : List Int) : Prop := d.length ≤ 1048576 ∧ ∃ A n c, v = .slice A n c ∧ Ow w lo hi 3 1 A n c (cI d)
def szIntS (d : List Int) : Nat := d.length
def mkIntS (K : Int) (d : List Int) : List Int := iota K d.length
section
variable {w w' : World} {lo hi lo' hi' B mid : Nat} {v : Value} {d : List Int}
theorem RdIntS.below (h : RdIntS w hi v d) (hb : Below hi w w') : RdIntS w' hi v d := by
  obtain ⟨A, n, c, rfl, hn, r⟩ := h; exact ⟨A, n, c, rfl, hn, r.below hb⟩
theorem RdIntS.more (h : RdIntS w hi v d) (hh : hi ≤ hi') : RdIntS w hi' v d := by
  obtain ⟨A, n, c, rfl, hn, r⟩ := h; exact ⟨A, n, c, rfl, hn, r.more hh⟩
theorem OwIntS.small (h : OwIntS w lo hi v d) : szIntS d ≤ 1048576 := h.1
theorem OwIntS.rd (h : OwIntS w lo hi v d) : RdIntS w hi v d := by
  obtain ⟨hs, A, n, c, rfl, r⟩ := h
  exact ⟨A, n, c, rfl, by have := r.len; omega, r.rd⟩
theorem OwIntS.below (h : OwIntS w lo hi v d) (hb : Below B w w') (hz : hi ≤ B) : OwIntS w' lo hi v d := by
  obtain ⟨hs, A, n, c, rfl, r⟩ := h; exact ⟨hs, A, n, c, rfl, r.below hb hz⟩
theorem OwIntS.kept (h : OwIntS w lo hi v d) (hk : Kept lo' mid w w') (hz : hi ≤ w.heap.size) (hd : mid ≤ lo ∨ hi ≤ lo') : OwIntS w' lo hi v d := by
  obtain ⟨hs, A, n, c, rfl, r⟩ := h; exact ⟨hs, A, n, c, rfl, r.kept hk hz hd⟩
theorem OwIntS.widen (h : OwIntS w lo hi v d) (h1 : lo' ≤ lo) (h2 : hi ≤ hi') : OwIntS w lo' hi' v d := by
  obtain ⟨hs, A, n, c, rfl, r⟩ := h; exact ⟨hs, A, n, c, rfl, r.widen h1 h2⟩
end
/-- a nil slice -/
theorem OwIntS.nil_ (w : World) (lo hi : Nat) : OwIntS w lo hi (.slice none 0 0) [] := ⟨by simp, none, 0, 0, rfl, by simp [cI], Nat.le_refl _, .inl rfl⟩

end Go.Proofs.Ytpaaimmakkfbkaa
