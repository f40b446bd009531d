/- Lists of structs of 3 ints (Proof): as cells; what reads and what is owned; the laws' helpers over them. Made by tools/genflat.py. -/
import Derived.Test.YtjaejgpihonjhaaFaceI
import Derived.Test.YtjaejgpihonjhaaPts
import Derived.StillTailTactics
namespace Go.Proofs.Ytjaejgpihonjhaa
open Go.RowKit
set_option maxRecDepth 100000

def cProof (ps : List (Int × Int × Int)) : List Value := ps.flatMap fun p => [.int .i64 (p.1), .int .i64 (p.2.1), .int .i64 (p.2.2)]
theorem cProof_length (ps : List (Int × Int × Int)) : (cProof ps).length = ps.length * 3 := by
  induction ps with
  | nil => rfl
  | cons p t ih => simp only [cProof, List.flatMap_cons, List.length_append, List.length_cons, List.length_nil] at *; omega
theorem cProof_cons (p : Int × Int × Int) (t : List (Int × Int × Int)) : cProof (p :: t) = .int .i64 (p.1) :: .int .i64 (p.2.1) :: .int .i64 (p.2.2) :: cProof t := rfl
theorem cProof_get0 (ps : List (Int × Int × Int)) (k : Nat) (h : k < ps.length) : (cProof ps)[k * 3]? = some (.int .i64 ((ps.getD k (0, 0, 0)).1)) := by
  induction ps generalizing k with
  | nil => simp at h
  | cons p t ih =>
    cases k with
    | zero => simp [cProof_cons]
    | succ k => rw [cProof_cons, show (k + 1) * 3 = k * 3 + 1 + 1 + 1 by omega, List.getElem?_cons_succ, List.getElem?_cons_succ, List.getElem?_cons_succ, ih k (by simpa using h)]; rfl
theorem cProof_get1 (ps : List (Int × Int × Int)) (k : Nat) (h : k < ps.length) : (cProof ps)[k * 3 + 1]? = some (.int .i64 ((ps.getD k (0, 0, 0)).2.1)) := by
  induction ps generalizing k with
  | nil => simp at h
  | cons p t ih =>
    cases k with
    | zero => simp [cProof_cons]
    | succ k => rw [cProof_cons, show (k + 1) * 3 + 1 = k * 3 + 1 + 1 + 1 + 1 by omega, List.getElem?_cons_succ, List.getElem?_cons_succ, List.getElem?_cons_succ, ih k (by simpa using h)]; rfl
theorem cProof_get2 (ps : List (Int × Int × Int)) (k : Nat) (h : k < ps.length) : (cProof ps)[k * 3 + 2]? = some (.int .i64 ((ps.getD k (0, 0, 0)).2.2)) := by
  induction ps generalizing k with
  | nil => simp at h
  | cons p t ih =>
    cases k with
    | zero => simp [cProof_cons]
    | succ k => rw [cProof_cons, show (k + 1) * 3 + 2 = k * 3 + 2 + 1 + 1 + 1 by omega, List.getElem?_cons_succ, List.getElem?_cons_succ, List.getElem?_cons_succ, ih k (by simpa using h)]; rfl
theorem cProof_set (ps : List (Int × Int × Int)) (k : Nat) (x : Int) (y : Int) (z : Int) : (((cProof ps).set (k * 3) (.int .i64 x)).set (k * 3 + 1) (.int .i64 y)).set (k * 3 + 2) (.int .i64 z) = cProof (ps.set k (x, y, z)) := by
  induction ps generalizing k with
  | nil => rfl
  | cons p t ih =>
    cases k with
    | zero => rfl
    | succ k =>
      have e0 : (k + 1) * 3 = k * 3 + 1 + 1 + 1 := by omega
      have e1 : (k + 1) * 3 + 1 = k * 3 + 1 + 1 + 1 + 1 := by omega
      have e2 : (k + 1) * 3 + 2 = k * 3 + 2 + 1 + 1 + 1 := by omega
      rw [cProof_cons, e2, e1, e0, List.set_cons_succ, List.set_cons_succ, List.set_cons_succ, List.set_cons_succ, List.set_cons_succ, List.set_cons_succ, List.set_cons_succ, List.set_cons_succ, List.set_cons_succ, ih k, List.set_cons_succ, cProof_cons]

theorem Rd.Prooflen {w : World} {hi n : Nat} {A : Option Addr} {ps : List (Int × Int × Int)} (h : Rd w hi 3 A n (cProof ps)) : ps.length = n := by have := h.1; rw [cProof_length] at this; omega
theorem Ow.Prooflen {w : World} {lo hi e n c : Nat} {A : Option Addr} {ps : List (Int × Int × Int)} (h : Ow w lo hi e 3 A n c (cProof ps)) : ps.length = n := by have := h.1; rw [cProof_length] at this; omega
theorem Rd.ProofAt {w : World} {hi n k : Nat} {A : Option Addr} {ps : List (Int × Int × Int)} (h : Rd w hi 3 A n (cProof ps)) (hk : k < n) :
    ∃ (a : Addr) (x : Int) (y : Int) (z : Int), A = some a ∧ a.block < hi ∧ w.cell? (a.add (k * 3)) = some (.int .i64 x) ∧ w.cell? ⟨(a.add (k * 3)).block, (a.add (k * 3)).off + 1, none⟩ = some (.int .i64 y) ∧ w.cell? ⟨(a.add (k * 3)).block, (a.add (k * 3)).off + 2, none⟩ = some (.int .i64 z) ∧ Hid (ps.getD k (0, 0, 0) = (x, y, z)) := by
  obtain ⟨a, e, hb, hc⟩ := h.2 (by omega)
  have hl := h.Prooflen
  exact ⟨a, _, _, _, e, hb, hc _ _ (cProof_get0 ps k (by omega)), by rw [add_next _ _ _ (by omega)]; exact hc _ _ (cProof_get1 ps k (by omega)), by rw [add_next _ _ _ (by omega)]; exact hc _ _ (cProof_get2 ps k (by omega)), Lib.hid rfl⟩

set_option maxHeartbeats 400000 in
theorem l_eqProof (x : Int) (y : Int) (z : Int) (w : World) :
    Calls Try.prog 16 #[.agg #[.int .i64 x, .int .i64 y, .int .i64 z], .agg #[.int .i64 x, .int .i64 y, .int .i64 z]] w fun e w' => e = .returned (.bool true) ∧ Below w.heap.size w w' := by
  go_enter Try.func16, Try.ntmps16
  go_wp2
  go_ret
  exact ⟨rfl, ((Below.refl _ _).alloc (Nat.le_refl _) _).alloc (by simp) _⟩

set_option maxHeartbeats 400000 in
theorem l_toProof (x : Int) (y : Int) (z : Int) (w : World) :
    Calls Try.prog 18 #[.agg #[.int .i64 x, .int .i64 y, .int .i64 z]] w fun e w' => e = .returned (.agg #[.int .i64 x, .int .i64 y, .int .i64 z]) ∧ Below w.heap.size w w' := by
  go_enter Try.func18, Try.ntmps18
  go_wp2
  refine bodyPost_ret (v := .agg #[.int .i64 x, .int .i64 y, .int .i64 z]) (by simp [results, Try.results18, go_sem]) rfl ⟨rfl, ?_⟩
  exact ((((Below.refl _ _).alloc (Nat.le_refl _) _).alloc (by simp only [World.size_alloc]; omega) _).alloc (by simp only [World.size_alloc]; omega) _)

theorem info_Proof : (Try.prog.info? 23).map (fun i => (i.zero, i.size, i.bytes)) = some (some (.agg #[.int .i64 0, .int .i64 0, .int .i64 0]), 3, 24) := by kernel_rfl
theorem made_Proof (n : Nat) : (madeCells #[.int .i64 0, .int .i64 0, .int .i64 0] (n * 3)).toList = cProof (List.replicate n (0, 0, 0)) := by
  apply List.ext_getElem?
  intro j
  by_cases hj : j < n * 3
  · obtain ⟨k, hk⟩ : ∃ k, j / 3 = k := ⟨_, rfl⟩
    have h2 : j = k * 3 ∨ j = k * 3 + 1 ∨ j = k * 3 + 2 := by omega
    have hkn : k < (List.replicate n ((0, 0, 0) : Int × Int × Int)).length := by rw [List.length_replicate]; omega
    have hkn2 : k < n := by omega
    clear hk
    rcases h2 with rfl | rfl | rfl
    · rw [cProof_get0 _ k hkn]; simp [madeCells, hj, hkn2, show (k * 3) % 3 = 0 by omega]
    · rw [cProof_get1 _ k hkn]; simp [madeCells, hj, hkn2, show (k * 3 + 1) % 3 = 1 by omega]
    · rw [cProof_get2 _ k hkn]; simp [madeCells, hj, hkn2, show (k * 3 + 2) % 3 = 2 by omega]
  · rw [List.getElem?_eq_none (by simp [madeCells]; omega), List.getElem?_eq_none (by rw [cProof_length, List.length_replicate]; omega)]
theorem copy_Proof {ps : List (Int × Int × Int)} {n k : Nat} {x : Int} {y : Int} {z : Int} (hz : ps.length = n) (hk : k < n) (hp : ps.getD k (0, 0, 0) = (x, y, z)) : (ps.take k ++ List.replicate (n - k) (0, 0, 0)).set k (x, y, z) = ps.take (k + 1) ++ List.replicate (n - (k + 1)) (0, 0, 0) := by
  have hl : (ps.take k).length = k := by simp; omega
  rw [List.set_append_right _ _ (by omega), hl, Nat.sub_self, show n - k = (n - (k + 1)) + 1 by omega, List.replicate_succ]
  have hk' : k < ps.length := by omega
  rw [List.set_cons_zero, List.take_succ_eq_append_getElem hk', List.append_assoc, List.singleton_append]
  have : ps[k] = (x, y, z) := by rw [← hp]; simp [hk']
  rw [this]
/-- one stored -/
theorem Ow.setProof {w : World} {lo hi e n c g k : Nat} {ps : List (Int × Int × Int)} (h : Ow w lo hi e 3 (some ⟨g, 0, none⟩) n c (cProof ps)) (x : Int) (y : Int) (z : Int) :
    Ow (((w.setCell ⟨g, k * 3, none⟩ (.int .i64 x)).setCell ⟨g, k * 3 + 1, none⟩ (.int .i64 y)).setCell ⟨g, k * 3 + 2, none⟩ (.int .i64 z)) lo hi e 3 (some ⟨g, 0, none⟩) n c (cProof (ps.set k (x, y, z))) := by
  have := (((h.set (k * 3) (.int .i64 x)).set (k * 3 + 1) (.int .i64 y)).set (k * 3 + 2) (.int .i64 z))
  rw [cProof_set] at this; exact this

/-- marked one behind the other -/
def iotaProof (K : Int) (n : Nat) : List (Int × Int × Int) := (List.range n).map fun i : Nat => (K + 3 * (i : Int), K + 3 * (i : Int) + 1, K + 3 * (i : Int) + 1 + 1)
theorem iotaProof_length (K : Int) (n : Nat) : (iotaProof K n).length = n := by simp [iotaProof]
theorem iotaProof_succ (K : Int) (n : Nat) : iotaProof K (n + 1) = iotaProof K n ++ [(K + 3 * (n : Int), K + 3 * (n : Int) + 1, K + 3 * (n : Int) + 1 + 1)] := by simp [iotaProof, List.range_succ]
theorem iotaProof_get (K : Int) (n k : Nat) (h : k < n) : (iotaProof K n).getD k (0, 0, 0) = (K + 3 * (k : Int), K + 3 * (k : Int) + 1, K + 3 * (k : Int) + 1 + 1) := by simp [iotaProof, h]
theorem mark_Proof {ps : List (Int × Int × Int)} {n k : Nat} (K : Int) (hz : ps.length = n) (hk : k < n) : (iotaProof K k ++ ps.drop k).set k (K + 3 * (k : Int), K + 3 * (k : Int) + 1, K + 3 * (k : Int) + 1 + 1) = iotaProof K (k + 1) ++ ps.drop (k + 1) := by
  have hl := iotaProof_length K k
  have hk' : k < ps.length := by omega
  rw [List.set_append_right _ _ (by omega), hl, Nat.sub_self, iotaProof_succ, List.append_assoc, List.drop_eq_getElem_cons hk', List.set_cons_zero, List.singleton_append]

/-! as whole values -/
def RdProofS (w : World) (hi : Nat) (v : Value) (d : List (Int × Int × Int)) : Prop := ∃ A n c, v = .slice A n c ∧ n ≤ 9223372036854775807 ∧ Rd w hi 3 A n (cProof d)
def OwProofS (w : World) (lo hi : Nat) (v : Value) (d : List (Int × Int × Int)) : Prop := d.length ≤ 1048576 ∧ ∃ A n c, v = .slice A n c ∧ Ow w lo hi 23 3 A n c (cProof d)
def szProofS (d : List (Int × Int × Int)) : Nat := d.length
def mkProofS (K : Int) (d : List (Int × Int × Int)) : List (Int × Int × Int) := iotaProof K d.length
section
variable {w w' : World} {lo hi lo' hi' B mid : Nat} {v : Value} {d : List (Int × Int × Int)}
theorem RdProofS.below (h : RdProofS w hi v d) (hb : Below hi w w') : RdProofS w' hi v d := by
  obtain ⟨A, n, c, rfl, hn, r⟩ := h; exact ⟨A, n, c, rfl, hn, r.below hb⟩
theorem RdProofS.more (h : RdProofS w hi v d) (hh : hi ≤ hi') : RdProofS w hi' v d := by
  obtain ⟨A, n, c, rfl, hn, r⟩ := h; exact ⟨A, n, c, rfl, hn, r.more hh⟩
theorem OwProofS.small (h : OwProofS w lo hi v d) : szProofS d ≤ 1048576 := h.1
theorem OwProofS.rd (h : OwProofS w lo hi v d) : RdProofS w hi v d := by
  obtain ⟨hs, A, n, c, rfl, r⟩ := h
  exact ⟨A, n, c, rfl, by have := r.Prooflen; omega, r.rd⟩
theorem OwProofS.below (h : OwProofS w lo hi v d) (hb : Below B w w') (hz : hi ≤ B) : OwProofS w' lo hi v d := by
  obtain ⟨hs, A, n, c, rfl, r⟩ := h; exact ⟨hs, A, n, c, rfl, r.below hb hz⟩
theorem OwProofS.kept (h : OwProofS w lo hi v d) (hk : Kept lo' mid w w') (hz : hi ≤ w.heap.size) (hd : mid ≤ lo ∨ hi ≤ lo') : OwProofS w' lo hi v d := by
  obtain ⟨hs, A, n, c, rfl, r⟩ := h; exact ⟨hs, A, n, c, rfl, r.kept hk hz hd⟩
theorem OwProofS.widen (h : OwProofS w lo hi v d) (h1 : lo' ≤ lo) (h2 : hi ≤ hi') : OwProofS w lo' hi' v d := by
  obtain ⟨hs, A, n, c, rfl, r⟩ := h; exact ⟨hs, A, n, c, rfl, r.widen h1 h2⟩
end
theorem OwProofS.nil_ (w : World) (lo hi : Nat) : OwProofS w lo hi (.slice none 0 0) [] := ⟨by simp, none, 0, 0, rfl, by simp [cProof], Nat.le_refl _, .inl rfl⟩
theorem RdProofS.nil_ (w : World) (hi : Nat) : RdProofS w hi (.slice none 0 0) [] := ⟨none, 0, 0, rfl, by omega, by simp [cProof], fun h => by omega⟩

end Go.Proofs.Ytjaejgpihonjhaa
