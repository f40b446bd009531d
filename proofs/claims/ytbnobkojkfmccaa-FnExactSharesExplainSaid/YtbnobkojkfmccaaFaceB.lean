/- Lists of truths as whole values: cells, the laws' own helpers, what a law hands from call to call. -/
import Derived.Test.YtbnobkojkfmccaaFaceI
namespace Go.Proofs.Ytbnobkojkfmccaa
open Go.RowKit
set_option maxRecDepth 100000

/-- truths as cells -/
def cB (xs : List Bool) : List Value := xs.map Value.bool
theorem cB_length (xs : List Bool) : (cB xs).length = xs.length := by simp [cB]
theorem cB_get (xs : List Bool) (j : Nat) (h : j < xs.length) : (cB xs)[j]? = some (.bool (xs.getD j false)) := by
  simp [cB, h]
theorem cB_set (zs : List Bool) (j : Nat) (v : Bool) : (cB zs).set j (.bool v) = cB (zs.set j v) := by simp [cB, List.map_set]
theorem cB_zeros (n : Nat) : List.replicate n (Value.bool false) = cB (List.replicate n false) := by simp [cB]
theorem cB_one (zs : List Bool) : ∀ u ∈ cB zs, u.oneCell' = true := by
  intro u hu
  obtain ⟨b, _, rfl⟩ := List.mem_map.1 hu
  rfl
section
variable {w w' : World} {lo hi lo' hi' e n c : Nat} {A : Option Addr} {zs : List Bool}
theorem Rd.blen (h : Rd w hi 1 A n (cB zs)) : zs.length = n := by have := h.1; rw [cB_length] at this; omega
theorem Ow.blen (h : Ow w lo hi e 1 A n c (cB zs)) : zs.length = n := by have := h.1; rw [cB_length] at this; omega
theorem Rd.boolAt (h : Rd w hi 1 A n (cB zs)) {k : Nat} (hk : k < n) : ∃ (a : Addr) (z : Bool), A = some a ∧ a.block < hi ∧ w.cell? (a.add k) = some (.bool z) ∧ Hid (z = zs.getD k false) := by
  obtain ⟨a, e, hb, hc⟩ := h.2 (by omega)
  exact ⟨a, _, e, hb, hc k _ (cB_get zs k (by have := h.blen; omega)), Lib.hid rfl⟩
theorem Ow.boolAt {a : Option Nat} {g k : Nat} (h : Ow w lo hi e 1 (some ⟨g, 0, a⟩) n c (cB zs)) (hk : k < n) : ∃ z : Bool, w.cell? ⟨g, k, none⟩ = some (.bool z) ∧ Hid (z = zs.getD k false) :=
  ⟨_, h.cellAt (cB_get zs k (by have := h.blen; omega)), Lib.hid rfl⟩
end
theorem ret_vvb2 {g k : Value} {a b : Bool} (h : a = b) : Ending.returned (.tuple #[g, k, .bool a]) = .returned (.tuple #[g, k, .bool b]) := by rw [h]
theorem info_bool : (Try.prog.info? 4).map (fun i => (i.zero, i.size, i.bytes)) = some (some (.bool false), 1, 1) := by kernel_rfl
theorem copyB_step {zs : List Bool} {n k : Nat} (hz : zs.length = n) (hk : k < n) : (zs.take k ++ List.replicate (n - k) false).set k (zs.getD k false) = zs.take (k + 1) ++ List.replicate (n - (k + 1)) false := by
  have hl : (zs.take k).length = k := by simp; omega
  rw [List.set_append_right _ _ (by omega), hl, Nat.sub_self, show n - k = (n - (k + 1)) + 1 by omega, List.replicate_succ]
  have hk' : k < zs.length := by omega
  rw [List.set_cons_zero, List.take_succ_eq_append_getElem hk', List.append_assoc, List.singleton_append]
  simp [hk']

/-- the marks: whether K, K + 1, .. are thrice something -/
def iotaB (K : Int) (n : Nat) : List Bool := (List.range n).map fun i : Nat => (K + (i : Int)) % 3 == 0
theorem iotaB_length (K : Int) (n : Nat) : (iotaB K n).length = n := by simp [iotaB]
theorem iotaB_get (K : Int) (n j : Nat) (h : j < n) : (iotaB K n).getD j false = ((K + j) % 3 == 0) := by simp [iotaB, h]
theorem iotaB_succ (K : Int) (n : Nat) : iotaB K (n + 1) = iotaB K n ++ [(K + n) % 3 == 0] := by simp [iotaB, List.range_succ]
theorem markB_step {zs : List Bool} {n k : Nat} (K : Int) (hz : zs.length = n) (hk : k < n) : (iotaB K k ++ zs.drop k).set k ((K + k) % 3 == 0) = iotaB K (k + 1) ++ zs.drop (k + 1) := by
  have hl := iotaB_length K k
  have hk' : k < zs.length := by omega
  rw [List.set_append_right _ _ (by omega), hl, Nat.sub_self, iotaB_succ, List.append_assoc, List.drop_eq_getElem_cons hk', List.set_cons_zero, List.singleton_append]

/-- v reads as the list d, below block hi -/
def RdBoolS (w : World) (hi : Nat) (v : Value) (d : List Bool) : Prop := ∃ A n c, v = .slice A n c ∧ n ≤ 9223372036854775807 ∧ Rd w hi 1 A n (cB d)
/-- v is the list d in a block of its own between lo and hi -/
def OwBoolS (w : World) (lo hi : Nat) (v : Value) (d : List Bool) : Prop := d.length ≤ 1048576 ∧ ∃ A n c, v = .slice A n c ∧ Ow w lo hi 4 1 A n c (cB d)
def szBoolS (d : List Bool) : Nat := d.length
def mkBoolS (K : Int) (d : List Bool) : List Bool := iotaB K d.length
section
variable {w w' : World} {lo hi lo' hi' B mid : Nat} {v : Value} {d : List Bool}
theorem RdBoolS.below (h : RdBoolS w hi v d) (hb : Below hi w w') : RdBoolS w' hi v d := by
  obtain ⟨A, n, c, rfl, hn, r⟩ := h; exact ⟨A, n, c, rfl, hn, r.below hb⟩
theorem RdBoolS.more (h : RdBoolS w hi v d) (hh : hi ≤ hi') : RdBoolS w hi' v d := by
  obtain ⟨A, n, c, rfl, hn, r⟩ := h; exact ⟨A, n, c, rfl, hn, r.more hh⟩
theorem OwBoolS.small (h : OwBoolS w lo hi v d) : szBoolS d ≤ 1048576 := h.1
theorem OwBoolS.rd (h : OwBoolS w lo hi v d) : RdBoolS w hi v d := by
  obtain ⟨hs, A, n, c, rfl, r⟩ := h
  exact ⟨A, n, c, rfl, by have := r.blen; omega, r.rd⟩
theorem OwBoolS.below (h : OwBoolS w lo hi v d) (hb : Below B w w') (hz : hi ≤ B) : OwBoolS w' lo hi v d := by
  obtain ⟨hs, A, n, c, rfl, r⟩ := h; exact ⟨hs, A, n, c, rfl, r.below hb hz⟩
theorem OwBoolS.kept (h : OwBoolS w lo hi v d) (hk : Kept lo' mid w w') (hz : hi ≤ w.heap.size) (hd : mid ≤ lo ∨ hi ≤ lo') : OwBoolS w' lo hi v d := by
  obtain ⟨hs, A, n, c, rfl, r⟩ := h; exact ⟨hs, A, n, c, rfl, r.kept hk hz hd⟩
theorem OwBoolS.widen (h : OwBoolS w lo hi v d) (h1 : lo' ≤ lo) (h2 : hi ≤ hi') : OwBoolS w lo' hi' v d := by
  obtain ⟨hs, A, n, c, rfl, r⟩ := h; exact ⟨hs, A, n, c, rfl, r.widen h1 h2⟩
end
/-- a nil slice -/
theorem OwBoolS.nil_ (w : World) (lo hi : Nat) : OwBoolS w lo hi (.slice none 0 0) [] := ⟨by simp, none, 0, 0, rfl, by simp [cB], Nat.le_refl _, .inl rfl⟩

end Go.Proofs.Ytbnobkojkfmccaa
