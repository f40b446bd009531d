/- Lists of pairs as whole values: what a law hands from call to call. -/
import Derived.Test.YtpaaimmakkfbkaaPts
namespace Go.Proofs.Ytpaaimmakkfbkaa
open Go.RowKit
set_option maxRecDepth 100000

def RdPointS (w : World) (hi : Nat) (v : Value) (d : List (Int × Int)) : Prop := ∃ A n c, v = .slice A n c ∧ n ≤ 9223372036854775807 ∧ Rd w hi 2 A n (cP d)
def OwPointS (w : World) (lo hi : Nat) (v : Value) (d : List (Int × Int)) : Prop := d.length ≤ 1048576 ∧ ∃ A n c, v = .slice A n c ∧ Ow w lo hi 46 2 A n c (cP d)
def szPointS (d : List (Int × Int)) : Nat := d.length
def mkPointS (K : Int) (d : List (Int × Int)) : List (Int × Int) := iotaP K d.length
section
variable {w w' : World} {lo hi lo' hi' B mid : Nat} {v : Value} {d : List (Int × Int)}
theorem RdPointS.below (h : RdPointS w hi v d) (hb : Below hi w w') : RdPointS w' hi v d := by
  obtain ⟨A, n, c, rfl, hn, r⟩ := h; exact ⟨A, n, c, rfl, hn, r.below hb⟩
theorem RdPointS.more (h : RdPointS w hi v d) (hh : hi ≤ hi') : RdPointS w hi' v d := by
  obtain ⟨A, n, c, rfl, hn, r⟩ := h; exact ⟨A, n, c, rfl, hn, r.more hh⟩
theorem OwPointS.small (h : OwPointS w lo hi v d) : szPointS d ≤ 1048576 := h.1
theorem OwPointS.rd (h : OwPointS w lo hi v d) : RdPointS w hi v d := by
  obtain ⟨hs, A, n, c, rfl, r⟩ := h
  exact ⟨A, n, c, rfl, by have := r.plen; omega, r.rd⟩
theorem OwPointS.below (h : OwPointS w lo hi v d) (hb : Below B w w') (hz : hi ≤ B) : OwPointS w' lo hi v d := by
  obtain ⟨hs, A, n, c, rfl, r⟩ := h; exact ⟨hs, A, n, c, rfl, r.below hb hz⟩
theorem OwPointS.kept (h : OwPointS w lo hi v d) (hk : Kept lo' mid w w') (hz : hi ≤ w.heap.size) (hd : mid ≤ lo ∨ hi ≤ lo') : OwPointS w' lo hi v d := by
  obtain ⟨hs, A, n, c, rfl, r⟩ := h; exact ⟨hs, A, n, c, rfl, r.kept hk hz hd⟩
theorem OwPointS.widen (h : OwPointS w lo hi v d) (h1 : lo' ≤ lo) (h2 : hi ≤ hi') : OwPointS w lo' hi' v d := by
  obtain ⟨hs, A, n, c, rfl, r⟩ := h; exact ⟨hs, A, n, c, rfl, r.widen h1 h2⟩
end
theorem OwPointS.nil_ (w : World) (lo hi : Nat) : OwPointS w lo hi (.slice none 0 0) [] := ⟨by simp, none, 0, 0, rfl, by simp [cP], Nat.le_refl _, .inl rfl⟩

end Go.Proofs.Ytpaaimmakkfbkaa
