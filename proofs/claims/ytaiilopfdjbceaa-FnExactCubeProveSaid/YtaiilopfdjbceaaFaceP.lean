/- Lists of pairs as whole values: what a law hands from call to call. -/
import Derived.Test.YtaiilopfdjbceaaPts
namespace Go.Proofs.Ytaiilopfdjbceaa
open Go.RowKit
set_option maxRecDepth 100000

def RdPointS (w : World) (hi : Nat) (v : Value) (d : List (Int × Int)) : Prop := ∃ A n c, v = .slice A n c ∧ n ≤ 9223372036854775807 ∧ Rd w hi 2 A n (cP d)
def OwPointS (w : World) (lo hi : Nat) (v : Value) (d : List (Int × Int)) : Prop := d.length ≤ 1048576 ∧ ∃ A n c, v = .slice A n c ∧ Ow w lo hi 44 2 A n c (cP d)
def szPointS (d : List (Int × Int)) : Nat := d.length
def mkPointS (K : Int) (d : List (Int × Int)) : List (Int × Int) := iotaP K d.length
section
variable {w w' : World} {lo hi lo' hi' B mid : Nat} {v : Value} {d : List (Int × Int)}
theorem RdPointS.below (h : RdPointS w hi v d) (hb : Below hi w w') : RdPointS w' hi v d := by
  obtain ⟨A, n, c, rfl, hn, r⟩ := h; exact ⟨A, n, c, rfl, hn, r.below hb⟩
theorem RdPointS.more (h : RdPointS w hi v d) (hh : hi ≤ hi') : RdPointS w hi' v d := by
  obtain ⟨A, n, c, rfl, hn, r⟩ := h; exact ⟨A, n, c, rfl, hn, r.more hh⟩
theorem OwPointS.small (h : OwPointS w lo hi v d) : szPointS d ≤ 1048576 := h.1
theorem OwPointS.rd (h : OwPointS w lo hi v d) : RdPointS w hi v d := by
  obtain ⟨hs, A, n, c, rfl, r⟩ := h
  exact ⟨A, n, c, rfl, by have := r.plen; omega, r.rd⟩
theorem OwPointS.below (h : OwPointS w lo hi v d) (hb : Below B w w') (hz : hi ≤ B) : OwPointS w' lo hi v d := by
  obtain ⟨hs, A, n, c, rfl, r⟩ := h; exact ⟨hs, A, n, c, rfl, r.below hb hz⟩
theorem OwPointS.kept (h : OwPointS w lo hi v d) (hk : Kept lo' mid w w') (hz : hi ≤ w.heap.size) (hd : mid ≤ lo ∨ hi ≤ lo') : OwPointS w' lo hi v d := by
  obtain ⟨hs, A, n, c, rfl, r⟩ := h; exact ⟨hs, A, n, c, rfl, r.kept hk hz hd⟩
theorem OwPointS.widen (h : OwPointS w lo hi v d) (h1 : lo' ≤ lo) (h2 : hi ≤ hi') : OwPointS w lo' hi' v d := by
  obtain ⟨hs, A, n, c, rfl, r⟩ := h; exact ⟨hs, A, n, c, rfl, r.widen h1 h2⟩
end
theorem OwPointS.nil_ (w : World) (lo hi : Nat) : OwPointS w lo hi (.slice none 0 0) [] := ⟨by simp, none, 0, 0, rfl, by simp [cP], Nat.le_refl _, .inl rfl⟩

theorem L_toPointS (hi : Nat) (v : Value) (d : List (Int × Int)) (w : World) (h : RdPointS w hi v d) (hh : hi ≤ w.heap.size) (hs : szPointS d ≤ 1048576) :
    Calls Try.prog 29 #[v] w fun e w' => ∃ v', e = .returned v' ∧ OwPointS w' w.heap.size w'.heap.size v' d ∧ Below w.heap.size w w' := by
  obtain ⟨A, n, c, rfl, _, r⟩ := h
  have hl := r.plen
  unfold szPointS at hs
  exact (l_toPointS A n c d w (r.more hh) (by omega)).mono fun e w' ⟨he, ho, hb, hz⟩ => ⟨_, he, ⟨hs, _, _, _, rfl, ho.widen (Nat.le_refl _) hz⟩, hb⟩

theorem L_eqPointS (hi hi' : Nat) (v v' : Value) (d : List (Int × Int)) (w : World) (h : RdPointS w hi v d) (h' : RdPointS w hi' v' d) (hh : hi ≤ w.heap.size) (hh' : hi' ≤ w.heap.size) (hs : szPointS d ≤ 1048576) :
    Calls Try.prog 23 #[v, v'] w fun e w' => e = .returned (.bool true) ∧ Below w.heap.size w w' := by
  obtain ⟨A, n, c, rfl, _, r⟩ := h
  obtain ⟨A', n', c', rfl, _, r'⟩ := h'
  have hl := r.plen
  have hl' := r'.plen
  obtain rfl : n' = n := by omega
  unfold szPointS at hs
  exact l_eqPointS A A' _ c c' d w (r.more hh) (r'.more hh') (by omega)

theorem L_markPointS (lo hi : Nat) (v : Value) (d : List (Int × Int)) (K : Int) (w : World) (h : OwPointS w lo hi v d) (_hz : hi ≤ w.heap.size) (hK : 0 ≤ K) (hK2 : K ≤ 1000000000) :
    Calls Try.prog 25 #[v, .int .i64 K] w fun e w' => ∃ K', e = .returned (.int .i64 K') ∧ Hid (K' = K + 2 * szPointS d) ∧ 0 ≤ K' ∧ K' ≤ K + 2097152 ∧ OwPointS w' lo hi v (mkPointS K d) ∧ Kept lo hi w w' := by
  obtain ⟨hs, A, n, c, rfl, r⟩ := h
  have hl := r.plen
  refine (l_markPointS A n c lo hi d K w r (by omega) hK (by omega)).mono fun e w' ⟨he, ho, hk⟩ => ?_
  refine ⟨_, he, Lib.hid (by unfold szPointS; omega), by omega, by omega, ⟨by rw [mkPointS, iotaP_length]; exact hs, _, _, _, rfl, ?_⟩, hk⟩
  unfold mkPointS; rw [hl]; exact ho

theorem L_szPointS_ok (hi : Nat) (v : Value) (d : List (Int × Int)) (left : Int) (w : World) (h : RdPointS w hi v d) (hl0 : 0 ≤ left) (hl1 : left ≤ 1048576) (hl : (szPointS d : Nat) ≤ left) :
    Calls Try.prog 27 #[v, .int .i64 left] w fun e w' => ∃ L', e = .returned (.int .i64 L') ∧ Hid (L' = left - szPointS d) ∧ 0 ≤ L' ∧ L' ≤ left ∧ Below w.heap.size w w' := by
  obtain ⟨A, n, c, rfl, hn, r⟩ := h
  have hn2 := r.plen
  unfold szPointS at hl
  refine (l_szPointS A n c left w hn hl0 hl1).mono fun e w' ⟨he, hw⟩ => ⟨_, he, Lib.hid ?_, ?_, ?_, hw ▸ Below.refl _ _⟩
  · rw [if_pos (by omega)]; unfold szPointS; omega
  · rw [if_pos (by omega)]; omega
  · rw [if_pos (by omega)]; omega
theorem L_szPointS_no (hi : Nat) (v : Value) (d : List (Int × Int)) (left : Int) (w : World) (h : RdPointS w hi v d) (hl0 : 0 ≤ left) (hl1 : left ≤ 1048576) (hl : left < (szPointS d : Nat)) :
    Calls Try.prog 27 #[v, .int .i64 left] w fun e w' => e = .returned (.int .i64 (-1)) ∧ Below w.heap.size w w' := by
  obtain ⟨A, n, c, rfl, hn, r⟩ := h
  have hn2 := r.plen
  unfold szPointS at hl
  refine (l_szPointS A n c left w hn hl0 hl1).mono fun e w' ⟨he, hw⟩ => ⟨?_, hw ▸ Below.refl _ _⟩
  rw [he, if_neg (by omega)]
end Go.Proofs.Ytaiilopfdjbceaa
