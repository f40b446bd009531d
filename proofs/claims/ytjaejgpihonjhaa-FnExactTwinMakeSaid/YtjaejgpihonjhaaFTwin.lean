/- Lists of structs of 4 ints (Twin): as cells; what reads and what is owned; the laws' helpers over them. Made by tools/genflat.py. -/
import Derived.Test.YtjaejgpihonjhaaFaceI
import Derived.Test.YtjaejgpihonjhaaPts
import Derived.StillTailTactics
namespace Go.Proofs.Ytjaejgpihonjhaa
open Go.RowKit
set_option maxRecDepth 100000

def cTwin (ps : List (Int × Int × Int × Int)) : List Value := ps.flatMap fun p => [.int .i64 (p.1), .int .i64 (p.2.1), .int .i64 (p.2.2.1), .int .i64 (p.2.2.2)]
theorem cTwin_length (ps : List (Int × Int × Int × Int)) : (cTwin ps).length = ps.length * 4 := by
  induction ps with
  | nil => rfl
  | cons p t ih => simp only [cTwin, List.flatMap_cons, List.length_append, List.length_cons, List.length_nil] at *; omega
theorem cTwin_cons (p : Int × Int × Int × Int) (t : List (Int × Int × Int × Int)) : cTwin (p :: t) = .int .i64 (p.1) :: .int .i64 (p.2.1) :: .int .i64 (p.2.2.1) :: .int .i64 (p.2.2.2) :: cTwin t := rfl
theorem cTwin_get0 (ps : List (Int × Int × Int × Int)) (k : Nat) (h : k < ps.length) : (cTwin ps)[k * 4]? = some (.int .i64 ((ps.getD k (0, 0, 0, 0)).1)) := by
  induction ps generalizing k with
  | nil => simp at h
  | cons p t ih =>
    cases k with
    | zero => simp [cTwin_cons]
    | succ k => rw [cTwin_cons, show (k + 1) * 4 = k * 4 + 1 + 1 + 1 + 1 by omega, List.getElem?_cons_succ, List.getElem?_cons_succ, List.getElem?_cons_succ, List.getElem?_cons_succ, ih k (by simpa using h)]; rfl
theorem cTwin_get1 (ps : List (Int × Int × Int × Int)) (k : Nat) (h : k < ps.length) : (cTwin ps)[k * 4 + 1]? = some (.int .i64 ((ps.getD k (0, 0, 0, 0)).2.1)) := by
  induction ps generalizing k with
  | nil => simp at h
  | cons p t ih =>
    cases k with
    | zero => simp [cTwin_cons]
    | succ k => rw [cTwin_cons, show (k + 1) * 4 + 1 = k * 4 + 1 + 1 + 1 + 1 + 1 by omega, List.getElem?_cons_succ, List.getElem?_cons_succ, List.getElem?_cons_succ, List.getElem?_cons_succ, ih k (by simpa using h)]; rfl
theorem cTwin_get2 (ps : List (Int × Int × Int × Int)) (k : Nat) (h : k < ps.length) : (cTwin ps)[k * 4 + 2]? = some (.int .i64 ((ps.getD k (0, 0, 0, 0)).2.2.1)) := by
  induction ps generalizing k with
  | nil => simp at h
  | cons p t ih =>
    cases k with
    | zero => simp [cTwin_cons]
    | succ k => rw [cTwin_cons, show (k + 1) * 4 + 2 = k * 4 + 2 + 1 + 1 + 1 + 1 by omega, List.getElem?_cons_succ, List.getElem?_cons_succ, List.getElem?_cons_succ, List.getElem?_cons_succ, ih k (by simpa using h)]; rfl
theorem cTwin_get3 (ps : List (Int × Int × Int × Int)) (k : Nat) (h : k < ps.length) : (cTwin ps)[k * 4 + 3]? = some (.int .i64 ((ps.getD k (0, 0, 0, 0)).2.2.2)) := by
  induction ps generalizing k with
  | nil => simp at h
  | cons p t ih =>
    cases k with
    | zero => simp [cTwin_cons]
    | succ k => rw [cTwin_cons, show (k + 1) * 4 + 3 = k * 4 + 3 + 1 + 1 + 1 + 1 by omega, List.getElem?_cons_succ, List.getElem?_cons_succ, List.getElem?_cons_succ, List.getElem?_cons_succ, ih k (by simpa using h)]; rfl
theorem cTwin_set (ps : List (Int × Int × Int × Int)) (k : Nat) (x : Int) (y : Int) (z : Int) (u : Int) : ((((cTwin ps).set (k * 4) (.int .i64 x)).set (k * 4 + 1) (.int .i64 y)).set (k * 4 + 2) (.int .i64 z)).set (k * 4 + 3) (.int .i64 u) = cTwin (ps.set k (x, y, z, u)) := by
  induction ps generalizing k with
  | nil => rfl
  | cons p t ih =>
    cases k with
    | zero => rfl
    | succ k =>
      have e0 : (k + 1) * 4 = k * 4 + 1 + 1 + 1 + 1 := by omega
      have e1 : (k + 1) * 4 + 1 = k * 4 + 1 + 1 + 1 + 1 + 1 := by omega
      have e2 : (k + 1) * 4 + 2 = k * 4 + 2 + 1 + 1 + 1 + 1 := by omega
      have e3 : (k + 1) * 4 + 3 = k * 4 + 3 + 1 + 1 + 1 + 1 := by omega
      rw [cTwin_cons, e3, e2, e1, e0, List.set_cons_succ, List.set_cons_succ, List.set_cons_succ, List.set_cons_succ, List.set_cons_succ, List.set_cons_succ, List.set_cons_succ, List.set_cons_succ, List.set_cons_succ, List.set_cons_succ, List.set_cons_succ, List.set_cons_succ, List.set_cons_succ, List.set_cons_succ, List.set_cons_succ, List.set_cons_succ, ih k, List.set_cons_succ, cTwin_cons]

theorem Rd.Twinlen {w : World} {hi n : Nat} {A : Option Addr} {ps : List (Int × Int × Int × Int)} (h : Rd w hi 4 A n (cTwin ps)) : ps.length = n := by have := h.1; rw [cTwin_length] at this; omega
theorem Ow.Twinlen {w : World} {lo hi e n c : Nat} {A : Option Addr} {ps : List (Int × Int × Int × Int)} (h : Ow w lo hi e 4 A n c (cTwin ps)) : ps.length = n := by have := h.1; rw [cTwin_length] at this; omega
theorem Rd.TwinAt {w : World} {hi n k : Nat} {A : Option Addr} {ps : List (Int × Int × Int × Int)} (h : Rd w hi 4 A n (cTwin ps)) (hk : k < n) :
    ∃ (a : Addr) (x : Int) (y : Int) (z : Int) (u : Int), A = some a ∧ a.block < hi ∧ w.cell? (a.add (k * 4)) = some (.int .i64 x) ∧ w.cell? ⟨(a.add (k * 4)).block, (a.add (k * 4)).off + 1, none⟩ = some (.int .i64 y) ∧ w.cell? ⟨(a.add (k * 4)).block, (a.add (k * 4)).off + 2, none⟩ = some (.int .i64 z) ∧ w.cell? ⟨(a.add (k * 4)).block, (a.add (k * 4)).off + 3, none⟩ = some (.int .i64 u) ∧ Hid (ps.getD k (0, 0, 0, 0) = (x, y, z, u)) := by
  obtain ⟨a, e, hb, hc⟩ := h.2 (by omega)
  have hl := h.Twinlen
  exact ⟨a, _, _, _, _, e, hb, hc _ _ (cTwin_get0 ps k (by omega)), by rw [add_next _ _ _ (by omega)]; exact hc _ _ (cTwin_get1 ps k (by omega)), by rw [add_next _ _ _ (by omega)]; exact hc _ _ (cTwin_get2 ps k (by omega)), by rw [add_next _ _ _ (by omega)]; exact hc _ _ (cTwin_get3 ps k (by omega)), Lib.hid rfl⟩

set_option maxHeartbeats 400000 in
theorem l_eqTwin (x : Int) (y : Int) (z : Int) (u : Int) (w : World) :
    Calls Try.prog 29 #[.agg #[.int .i64 x, .int .i64 y, .int .i64 z, .int .i64 u], .agg #[.int .i64 x, .int .i64 y, .int .i64 z, .int .i64 u]] w fun e w' => e = .returned (.bool true) ∧ Below w.heap.size w w' := by
  go_enter Try.func29, Try.ntmps29
  go_wp2
  go_ret
  exact ⟨rfl, ((Below.refl _ _).alloc (Nat.le_refl _) _).alloc (by simp) _⟩

set_option maxHeartbeats 400000 in
theorem l_toTwin (x : Int) (y : Int) (z : Int) (u : Int) (w : World) :
    Calls Try.prog 31 #[.agg #[.int .i64 x, .int .i64 y, .int .i64 z, .int .i64 u]] w fun e w' => e = .returned (.agg #[.int .i64 x, .int .i64 y, .int .i64 z, .int .i64 u]) ∧ Below w.heap.size w w' := by
  go_enter Try.func31, Try.ntmps31
  go_wp2
  refine bodyPost_ret (v := .agg #[.int .i64 x, .int .i64 y, .int .i64 z, .int .i64 u]) (by simp [results, Try.results31, go_sem]) rfl ⟨rfl, ?_⟩
  exact ((((Below.refl _ _).alloc (Nat.le_refl _) _).alloc (by simp only [World.size_alloc]; omega) _).alloc (by simp only [World.size_alloc]; omega) _)

theorem info_Twin : (Try.prog.info? 39).map (fun i => (i.zero, i.size, i.bytes)) = some (some (.agg #[.int .i64 0, .int .i64 0, .int .i64 0, .int .i64 0]), 4, 32) := by kernel_rfl
theorem made_Twin (n : Nat) : (madeCells #[.int .i64 0, .int .i64 0, .int .i64 0, .int .i64 0] (n * 4)).toList = cTwin (List.replicate n (0, 0, 0, 0)) := by
  apply List.ext_getElem?
  intro j
  by_cases hj : j < n * 4
  · obtain ⟨k, hk⟩ : ∃ k, j / 4 = k := ⟨_, rfl⟩
    have h2 : j = k * 4 ∨ j = k * 4 + 1 ∨ j = k * 4 + 2 ∨ j = k * 4 + 3 := by omega
    have hkn : k < (List.replicate n ((0, 0, 0, 0) : Int × Int × Int × Int)).length := by rw [List.length_replicate]; omega
    have hkn2 : k < n := by omega
    clear hk
    rcases h2 with rfl | rfl | rfl | rfl
    · rw [cTwin_get0 _ k hkn]; simp [madeCells, hj, hkn2, show (k * 4) % 4 = 0 by omega]
    · rw [cTwin_get1 _ k hkn]; simp [madeCells, hj, hkn2, show (k * 4 + 1) % 4 = 1 by omega]
    · rw [cTwin_get2 _ k hkn]; simp [madeCells, hj, hkn2, show (k * 4 + 2) % 4 = 2 by omega]
    · rw [cTwin_get3 _ k hkn]; simp [madeCells, hj, hkn2, show (k * 4 + 3) % 4 = 3 by omega]
  · rw [List.getElem?_eq_none (by simp [madeCells]; omega), List.getElem?_eq_none (by rw [cTwin_length, List.length_replicate]; omega)]
theorem copy_Twin {ps : List (Int × Int × Int × Int)} {n k : Nat} {x : Int} {y : Int} {z : Int} {u : Int} (hz : ps.length = n) (hk : k < n) (hp : ps.getD k (0, 0, 0, 0) = (x, y, z, u)) : (ps.take k ++ List.replicate (n - k) (0, 0, 0, 0)).set k (x, y, z, u) = ps.take (k + 1) ++ List.replicate (n - (k + 1)) (0, 0, 0, 0) := by
  have hl : (ps.take k).length = k := by simp; omega
  rw [List.set_append_right _ _ (by omega), hl, Nat.sub_self, show n - k = (n - (k + 1)) + 1 by omega, List.replicate_succ]
  have hk' : k < ps.length := by omega
  rw [List.set_cons_zero, List.take_succ_eq_append_getElem hk', List.append_assoc, List.singleton_append]
  have : ps[k] = (x, y, z, u) := by rw [← hp]; simp [hk']
  rw [this]
/-- one stored -/
theorem Ow.setTwin {w : World} {lo hi e n c g k : Nat} {ps : List (Int × Int × Int × Int)} (h : Ow w lo hi e 4 (some ⟨g, 0, none⟩) n c (cTwin ps)) (x : Int) (y : Int) (z : Int) (u : Int) :
    Ow ((((w.setCell ⟨g, k * 4, none⟩ (.int .i64 x)).setCell ⟨g, k * 4 + 1, none⟩ (.int .i64 y)).setCell ⟨g, k * 4 + 2, none⟩ (.int .i64 z)).setCell ⟨g, k * 4 + 3, none⟩ (.int .i64 u)) lo hi e 4 (some ⟨g, 0, none⟩) n c (cTwin (ps.set k (x, y, z, u))) := by
  have := ((((h.set (k * 4) (.int .i64 x)).set (k * 4 + 1) (.int .i64 y)).set (k * 4 + 2) (.int .i64 z)).set (k * 4 + 3) (.int .i64 u))
  rw [cTwin_set] at this; exact this

/-- marked one behind the other -/
def iotaTwin (K : Int) (n : Nat) : List (Int × Int × Int × Int) := (List.range n).map fun i : Nat => (K + 4 * (i : Int), K + 4 * (i : Int) + 1, K + 4 * (i : Int) + 1 + 1, K + 4 * (i : Int) + 1 + 1 + 1)
theorem iotaTwin_length (K : Int) (n : Nat) : (iotaTwin K n).length = n := by simp [iotaTwin]
theorem iotaTwin_succ (K : Int) (n : Nat) : iotaTwin K (n + 1) = iotaTwin K n ++ [(K + 4 * (n : Int), K + 4 * (n : Int) + 1, K + 4 * (n : Int) + 1 + 1, K + 4 * (n : Int) + 1 + 1 + 1)] := by simp [iotaTwin, List.range_succ]
theorem iotaTwin_get (K : Int) (n k : Nat) (h : k < n) : (iotaTwin K n).getD k (0, 0, 0, 0) = (K + 4 * (k : Int), K + 4 * (k : Int) + 1, K + 4 * (k : Int) + 1 + 1, K + 4 * (k : Int) + 1 + 1 + 1) := by simp [iotaTwin, h]
theorem mark_Twin {ps : List (Int × Int × Int × Int)} {n k : Nat} (K : Int) (hz : ps.length = n) (hk : k < n) : (iotaTwin K k ++ ps.drop k).set k (K + 4 * (k : Int), K + 4 * (k : Int) + 1, K + 4 * (k : Int) + 1 + 1, K + 4 * (k : Int) + 1 + 1 + 1) = iotaTwin K (k + 1) ++ ps.drop (k + 1) := by
  have hl := iotaTwin_length K k
  have hk' : k < ps.length := by omega
  rw [List.set_append_right _ _ (by omega), hl, Nat.sub_self, iotaTwin_succ, List.append_assoc, List.drop_eq_getElem_cons hk', List.set_cons_zero, List.singleton_append]

/-! as whole values -/
def RdTwinS (w : World) (hi : Nat) (v : Value) (d : List (Int × Int × Int × Int)) : Prop := ∃ A n c, v = .slice A n c ∧ n ≤ 9223372036854775807 ∧ Rd w hi 4 A n (cTwin d)
def OwTwinS (w : World) (lo hi : Nat) (v : Value) (d : List (Int × Int × Int × Int)) : Prop := d.length ≤ 1048576 ∧ ∃ A n c, v = .slice A n c ∧ Ow w lo hi 39 4 A n c (cTwin d)
def szTwinS (d : List (Int × Int × Int × Int)) : Nat := d.length
def mkTwinS (K : Int) (d : List (Int × Int × Int × Int)) : List (Int × Int × Int × Int) := iotaTwin K d.length
section
variable {w w' : World} {lo hi lo' hi' B mid : Nat} {v : Value} {d : List (Int × Int × Int × Int)}
theorem RdTwinS.below (h : RdTwinS w hi v d) (hb : Below hi w w') : RdTwinS w' hi v d := by
  obtain ⟨A, n, c, rfl, hn, r⟩ := h; exact ⟨A, n, c, rfl, hn, r.below hb⟩
theorem RdTwinS.more (h : RdTwinS w hi v d) (hh : hi ≤ hi') : RdTwinS w hi' v d := by
  obtain ⟨A, n, c, rfl, hn, r⟩ := h; exact ⟨A, n, c, rfl, hn, r.more hh⟩
theorem OwTwinS.small (h : OwTwinS w lo hi v d) : szTwinS d ≤ 1048576 := h.1
theorem OwTwinS.rd (h : OwTwinS w lo hi v d) : RdTwinS w hi v d := by
  obtain ⟨hs, A, n, c, rfl, r⟩ := h
  exact ⟨A, n, c, rfl, by have := r.Twinlen; omega, r.rd⟩
theorem OwTwinS.below (h : OwTwinS w lo hi v d) (hb : Below B w w') (hz : hi ≤ B) : OwTwinS w' lo hi v d := by
  obtain ⟨hs, A, n, c, rfl, r⟩ := h; exact ⟨hs, A, n, c, rfl, r.below hb hz⟩
theorem OwTwinS.kept (h : OwTwinS w lo hi v d) (hk : Kept lo' mid w w') (hz : hi ≤ w.heap.size) (hd : mid ≤ lo ∨ hi ≤ lo') : OwTwinS w' lo hi v d := by
  obtain ⟨hs, A, n, c, rfl, r⟩ := h; exact ⟨hs, A, n, c, rfl, r.kept hk hz hd⟩
theorem OwTwinS.widen (h : OwTwinS w lo hi v d) (h1 : lo' ≤ lo) (h2 : hi ≤ hi') : OwTwinS w lo' hi' v d := by
  obtain ⟨hs, A, n, c, rfl, r⟩ := h; exact ⟨hs, A, n, c, rfl, r.widen h1 h2⟩
end
theorem OwTwinS.nil_ (w : World) (lo hi : Nat) : OwTwinS w lo hi (.slice none 0 0) [] := ⟨by simp, none, 0, 0, rfl, by simp [cTwin], Nat.le_refl _, .inl rfl⟩
theorem RdTwinS.nil_ (w : World) (hi : Nat) : RdTwinS w hi (.slice none 0 0) [] := ⟨none, 0, 0, rfl, by omega, by simp [cTwin], fun h => by omega⟩

end Go.Proofs.Ytjaejgpihonjhaa
