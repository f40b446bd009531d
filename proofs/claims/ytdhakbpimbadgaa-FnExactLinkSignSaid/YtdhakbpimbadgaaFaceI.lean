/- Lists of ints as whole values: what a law hands from call to call. -/
import Derived.Test.YtdhakbpimbadgaaHelpI
namespace Go.Proofs.Ytdhakbpimbadgaa
open Go.RowKit

/-- v reads as the list d, below block hi -/
def RdIntS (w : World) (hi : Nat) (v : Value) (d : List Int) : Prop := ∃ A n c, v = .slice A n c ∧ n ≤ 9223372036854775807 ∧ Rd w hi 1 A n (cI d)
/-- v is the list d in a block of its own between lo and hi -/
def OwIntS (w : World) (lo hi : Nat) (v : Value) (d : List Int) : Prop := d.length ≤ 1048576 ∧ ∃ A n c, v = .slice A n c ∧ Ow w lo hi 3 1 A n c (cI d)
def szIntS (d : List Int) : Nat := d.length
def mkIntS (K : Int) (d : List Int) : List Int := iota K d.length
section
variable {w w' : World} {lo hi lo' hi' B mid : Nat} {v : Value} {d : List Int}
theorem RdIntS.below (h : RdIntS w hi v d) (hb : Below hi w w') : RdIntS w' hi v d := by
  obtain ⟨A, n, c, rfl, hn, r⟩ := h; exact ⟨A, n, c, rfl, hn, r.below hb⟩
theorem RdIntS.more (h : RdIntS w hi v d) (hh : hi ≤ hi') : RdIntS w hi' v d := by
  obtain ⟨A, n, c, rfl, hn, r⟩ := h; exact ⟨A, n, c, rfl, hn, r.more hh⟩
theorem OwIntS.small (h : OwIntS w lo hi v d) : szIntS d ≤ 1048576 := h.1
theorem OwIntS.rd (h : OwIntS w lo hi v d) : RdIntS w hi v d := by
  obtain ⟨hs, A, n, c, rfl, r⟩ := h
  exact ⟨A, n, c, rfl, by have := r.len; omega, r.rd⟩
theorem OwIntS.below (h : OwIntS w lo hi v d) (hb : Below B w w') (hz : hi ≤ B) : OwIntS w' lo hi v d := by
  obtain ⟨hs, A, n, c, rfl, r⟩ := h; exact ⟨hs, A, n, c, rfl, r.below hb hz⟩
theorem OwIntS.kept (h : OwIntS w lo hi v d) (hk : Kept lo' mid w w') (hz : hi ≤ w.heap.size) (hd : mid ≤ lo ∨ hi ≤ lo') : OwIntS w' lo hi v d := by
  obtain ⟨hs, A, n, c, rfl, r⟩ := h; exact ⟨hs, A, n, c, rfl, r.kept hk hz hd⟩
theorem OwIntS.widen (h : OwIntS w lo hi v d) (h1 : lo' ≤ lo) (h2 : hi ≤ hi') : OwIntS w lo' hi' v d := by
  obtain ⟨hs, A, n, c, rfl, r⟩ := h; exact ⟨hs, A, n, c, rfl, r.widen h1 h2⟩
end
/-- a nil slice -/
theorem OwIntS.nil_ (w : World) (lo hi : Nat) : OwIntS w lo hi (.slice none 0 0) [] := ⟨by simp, none, 0, 0, rfl, by simp [cI], Nat.le_refl _, .inl rfl⟩

theorem L_toIntS (hi : Nat) (v : Value) (d : List Int) (w : World) (h : RdIntS w hi v d) (hh : hi ≤ w.heap.size) (hs : szIntS d ≤ 1048576) :
    Calls Try.prog 11 #[v] w fun e w' => ∃ v', e = .returned v' ∧ OwIntS w' w.heap.size w'.heap.size v' d ∧ Below w.heap.size w w' := by
  obtain ⟨A, n, c, rfl, _, r⟩ := h
  have hl := r.len
  unfold szIntS at hs
  refine (l_toIntS A n c d w (r.more hh) (by omega)).mono fun e w' ⟨he, ho, hb⟩ => ?_
  refine ⟨_, he, ⟨hs, _, _, _, rfl, ?_⟩, hb⟩
  rcases ho.2.2 with h0 | ⟨g, cs, hA, h1, h2, hg, r⟩
  · exact ⟨ho.1, ho.2.1, .inl h0⟩
  · exact ⟨ho.1, ho.2.1, .inr ⟨g, cs, hA, h1, (Array.getElem?_eq_some_iff.1 hg).1, hg, r⟩⟩

theorem L_eqIntS (hi hi' : Nat) (v v' : Value) (d : List Int) (w : World) (h : RdIntS w hi v d) (h' : RdIntS w hi' v' d) (hh : hi ≤ w.heap.size) (hh' : hi' ≤ w.heap.size) (hs : szIntS d ≤ 1048576) :
    Calls Try.prog 14 #[v, v'] w fun e w' => e = .returned (.bool true) ∧ Below w.heap.size w w' := by
  obtain ⟨A, n, c, rfl, _, r⟩ := h
  obtain ⟨A', n', c', rfl, _, r'⟩ := h'
  have hl := r.len
  have hl' := r'.len
  obtain rfl : n' = n := by omega
  unfold szIntS at hs
  exact (l_eqIntS A A' _ c c' d w (r.more hh) (r'.more hh') (by omega)).mono fun e w' ⟨he, hw⟩ => ⟨he, hw.below _⟩

theorem L_markIntS (lo hi : Nat) (v : Value) (d : List Int) (K : Int) (w : World) (h : OwIntS w lo hi v d) (_hz : hi ≤ w.heap.size) (hK : 0 ≤ K) (hK2 : K ≤ 1000000000) :
    Calls Try.prog 15 #[v, .int .i64 K] w fun e w' => ∃ K', e = .returned (.int .i64 K') ∧ Hid (K' = K + szIntS d) ∧ 0 ≤ K' ∧ K' ≤ K + 1048576 ∧ OwIntS w' lo hi v (mkIntS K d) ∧ Kept lo hi w w' := by
  obtain ⟨hs, A, n, c, rfl, r⟩ := h
  have hl := r.len
  refine (l_markIntS A n c lo hi d K w r (by omega) hK (by omega)).mono fun e w' ⟨he, ho, hk, _⟩ => ?_
  refine ⟨_, he, Lib.hid (by unfold szIntS; omega), by omega, by omega, ⟨by rw [mkIntS, iota_length]; exact hs, _, _, _, rfl, ?_⟩, hk⟩
  unfold mkIntS; rw [hl]; exact ho

end Go.Proofs.Ytdhakbpimbadgaa
