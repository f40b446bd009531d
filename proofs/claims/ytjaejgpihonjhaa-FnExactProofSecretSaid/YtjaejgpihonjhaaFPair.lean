/- Lists of structs of 2 ints (Pair): as cells; what reads and what is owned; the laws' helpers over them. Made by tools/genflat.py. -/
import Derived.Test.YtjaejgpihonjhaaFaceI
import Derived.Test.YtjaejgpihonjhaaPts
import Derived.StillTailTactics
namespace Go.Proofs.Ytjaejgpihonjhaa
open Go.RowKit
set_option maxRecDepth 100000

def cPair (ps : List (Int × Int)) : List Value := ps.flatMap fun p => [.int .i64 (p.1), .int .i64 (p.2)]
theorem cPair_length (ps : List (Int × Int)) : (cPair ps).length = ps.length * 2 := by
  induction ps with
  | nil => rfl
  | cons p t ih => simp only [cPair, List.flatMap_cons, List.length_append, List.length_cons, List.length_nil] at *; omega
theorem cPair_cons (p : Int × Int) (t : List (Int × Int)) : cPair (p :: t) = .int .i64 (p.1) :: .int .i64 (p.2) :: cPair t := rfl
theorem cPair_get0 (ps : List (Int × Int)) (k : Nat) (h : k < ps.length) : (cPair ps)[k * 2]? = some (.int .i64 ((ps.getD k (0, 0)).1)) := by
  induction ps generalizing k with
  | nil => simp at h
  | cons p t ih =>
    cases k with
    | zero => simp [cPair_cons]
    | succ k => rw [cPair_cons, show (k + 1) * 2 = k * 2 + 1 + 1 by omega, List.getElem?_cons_succ, List.getElem?_cons_succ, ih k (by simpa using h)]; rfl
theorem cPair_get1 (ps : List (Int × Int)) (k : Nat) (h : k < ps.length) : (cPair ps)[k * 2 + 1]? = some (.int .i64 ((ps.getD k (0, 0)).2)) := by
  induction ps generalizing k with
  | nil => simp at h
  | cons p t ih =>
    cases k with
    | zero => simp [cPair_cons]
    | succ k => rw [cPair_cons, show (k + 1) * 2 + 1 = k * 2 + 1 + 1 + 1 by omega, List.getElem?_cons_succ, List.getElem?_cons_succ, ih k (by simpa using h)]; rfl
theorem cPair_set (ps : List (Int × Int)) (k : Nat) (x : Int) (y : Int) : ((cPair ps).set (k * 2) (.int .i64 x)).set (k * 2 + 1) (.int .i64 y) = cPair (ps.set k (x, y)) := by
  induction ps generalizing k with
  | nil => rfl
  | cons p t ih =>
    cases k with
    | zero => rfl
    | succ k =>
      have e0 : (k + 1) * 2 = k * 2 + 1 + 1 := by omega
      have e1 : (k + 1) * 2 + 1 = k * 2 + 1 + 1 + 1 := by omega
      rw [cPair_cons, e1, e0, List.set_cons_succ, List.set_cons_succ, List.set_cons_succ, List.set_cons_succ, ih k, List.set_cons_succ, cPair_cons]

theorem Rd.Pairlen {w : World} {hi n : Nat} {A : Option Addr} {ps : List (Int × Int)} (h : Rd w hi 2 A n (cPair ps)) : ps.length = n := by have := h.1; rw [cPair_length] at this; omega
theorem Ow.Pairlen {w : World} {lo hi e n c : Nat} {A : Option Addr} {ps : List (Int × Int)} (h : Ow w lo hi e 2 A n c (cPair ps)) : ps.length = n := by have := h.1; rw [cPair_length] at this; omega
theorem Rd.PairAt {w : World} {hi n k : Nat} {A : Option Addr} {ps : List (Int × Int)} (h : Rd w hi 2 A n (cPair ps)) (hk : k < n) :
    ∃ (a : Addr) (x : Int) (y : Int), A = some a ∧ a.block < hi ∧ w.cell? (a.add (k * 2)) = some (.int .i64 x) ∧ w.cell? ⟨(a.add (k * 2)).block, (a.add (k * 2)).off + 1, none⟩ = some (.int .i64 y) ∧ Hid (ps.getD k (0, 0) = (x, y)) := by
  obtain ⟨a, e, hb, hc⟩ := h.2 (by omega)
  have hl := h.Pairlen
  exact ⟨a, _, _, e, hb, hc _ _ (cPair_get0 ps k (by omega)), by rw [add_next _ _ _ (by omega)]; exact hc _ _ (cPair_get1 ps k (by omega)), Lib.hid rfl⟩

set_option maxHeartbeats 400000 in
theorem l_toPair (x : Int) (y : Int) (w : World) :
    Calls Try.prog 27 #[.agg #[.int .i64 x, .int .i64 y]] w fun e w' => e = .returned (.agg #[.int .i64 x, .int .i64 y]) ∧ Below w.heap.size w w' := by
  go_enter Try.func27, Try.ntmps27
  go_wp2
  refine bodyPost_ret (v := .agg #[.int .i64 x, .int .i64 y]) (by simp [results, Try.results27, go_sem]) rfl ⟨rfl, ?_⟩
  exact ((((Below.refl _ _).alloc (Nat.le_refl _) _).alloc (by simp only [World.size_alloc]; omega) _).alloc (by simp only [World.size_alloc]; omega) _)

theorem info_Pair : (Try.prog.info? 42).map (fun i => (i.zero, i.size, i.bytes)) = some (some (.agg #[.int .i64 0, .int .i64 0]), 2, 16) := by kernel_rfl
theorem made_Pair (n : Nat) : (madeCells #[.int .i64 0, .int .i64 0] (n * 2)).toList = cPair (List.replicate n (0, 0)) := by
  apply List.ext_getElem?
  intro j
  by_cases hj : j < n * 2
  · obtain ⟨k, hk⟩ : ∃ k, j / 2 = k := ⟨_, rfl⟩
    have h2 : j = k * 2 ∨ j = k * 2 + 1 := by omega
    have hkn : k < (List.replicate n ((0, 0) : Int × Int)).length := by rw [List.length_replicate]; omega
    have hkn2 : k < n := by omega
    clear hk
    rcases h2 with rfl | rfl
    · rw [cPair_get0 _ k hkn]; simp [madeCells, hj, hkn2, show (k * 2) % 2 = 0 by omega]
    · rw [cPair_get1 _ k hkn]; simp [madeCells, hj, hkn2, show (k * 2 + 1) % 2 = 1 by omega]
  · rw [List.getElem?_eq_none (by simp [madeCells]; omega), List.getElem?_eq_none (by rw [cPair_length, List.length_replicate]; omega)]
theorem copy_Pair {ps : List (Int × Int)} {n k : Nat} {x : Int} {y : Int} (hz : ps.length = n) (hk : k < n) (hp : ps.getD k (0, 0) = (x, y)) : (ps.take k ++ List.replicate (n - k) (0, 0)).set k (x, y) = ps.take (k + 1) ++ List.replicate (n - (k + 1)) (0, 0) := by
  have hl : (ps.take k).length = k := by simp; omega
  rw [List.set_append_right _ _ (by omega), hl, Nat.sub_self, show n - k = (n - (k + 1)) + 1 by omega, List.replicate_succ]
  have hk' : k < ps.length := by omega
  rw [List.set_cons_zero, List.take_succ_eq_append_getElem hk', List.append_assoc, List.singleton_append]
  have : ps[k] = (x, y) := by rw [← hp]; simp [hk']
  rw [this]
/-- one stored -/
theorem Ow.setPair {w : World} {lo hi e n c g k : Nat} {ps : List (Int × Int)} (h : Ow w lo hi e 2 (some ⟨g, 0, none⟩) n c (cPair ps)) (x : Int) (y : Int) :
    Ow ((w.setCell ⟨g, k * 2, none⟩ (.int .i64 x)).setCell ⟨g, k * 2 + 1, none⟩ (.int .i64 y)) lo hi e 2 (some ⟨g, 0, none⟩) n c (cPair (ps.set k (x, y))) := by
  have := ((h.set (k * 2) (.int .i64 x)).set (k * 2 + 1) (.int .i64 y))
  rw [cPair_set] at this; exact this

/-- marked one behind the other -/
def iotaPair (K : Int) (n : Nat) : List (Int × Int) := (List.range n).map fun i : Nat => (K + 2 * (i : Int), K + 2 * (i : Int) + 1)
theorem iotaPair_length (K : Int) (n : Nat) : (iotaPair K n).length = n := by simp [iotaPair]
theorem iotaPair_succ (K : Int) (n : Nat) : iotaPair K (n + 1) = iotaPair K n ++ [(K + 2 * (n : Int), K + 2 * (n : Int) + 1)] := by simp [iotaPair, List.range_succ]
theorem iotaPair_get (K : Int) (n k : Nat) (h : k < n) : (iotaPair K n).getD k (0, 0) = (K + 2 * (k : Int), K + 2 * (k : Int) + 1) := by simp [iotaPair, h]
theorem mark_Pair {ps : List (Int × Int)} {n k : Nat} (K : Int) (hz : ps.length = n) (hk : k < n) : (iotaPair K k ++ ps.drop k).set k (K + 2 * (k : Int), K + 2 * (k : Int) + 1) = iotaPair K (k + 1) ++ ps.drop (k + 1) := by
  have hl := iotaPair_length K k
  have hk' : k < ps.length := by omega
  rw [List.set_append_right _ _ (by omega), hl, Nat.sub_self, iotaPair_succ, List.append_assoc, List.drop_eq_getElem_cons hk', List.set_cons_zero, List.singleton_append]

/-! as whole values -/
def RdPairS (w : World) (hi : Nat) (v : Value) (d : List (Int × Int)) : Prop := ∃ A n c, v = .slice A n c ∧ n ≤ 9223372036854775807 ∧ Rd w hi 2 A n (cPair d)
def OwPairS (w : World) (lo hi : Nat) (v : Value) (d : List (Int × Int)) : Prop := d.length ≤ 1048576 ∧ ∃ A n c, v = .slice A n c ∧ Ow w lo hi 42 2 A n c (cPair d)
def szPairS (d : List (Int × Int)) : Nat := d.length
def mkPairS (K : Int) (d : List (Int × Int)) : List (Int × Int) := iotaPair K d.length
section
variable {w w' : World} {lo hi lo' hi' B mid : Nat} {v : Value} {d : List (Int × Int)}
theorem RdPairS.below (h : RdPairS w hi v d) (hb : Below hi w w') : RdPairS w' hi v d := by
  obtain ⟨A, n, c, rfl, hn, r⟩ := h; exact ⟨A, n, c, rfl, hn, r.below hb⟩
theorem RdPairS.more (h : RdPairS w hi v d) (hh : hi ≤ hi') : RdPairS w hi' v d := by
  obtain ⟨A, n, c, rfl, hn, r⟩ := h; exact ⟨A, n, c, rfl, hn, r.more hh⟩
theorem OwPairS.small (h : OwPairS w lo hi v d) : szPairS d ≤ 1048576 := h.1
theorem OwPairS.rd (h : OwPairS w lo hi v d) : RdPairS w hi v d := by
  obtain ⟨hs, A, n, c, rfl, r⟩ := h
  exact ⟨A, n, c, rfl, by have := r.Pairlen; omega, r.rd⟩
theorem OwPairS.below (h : OwPairS w lo hi v d) (hb : Below B w w') (hz : hi ≤ B) : OwPairS w' lo hi v d := by
  obtain ⟨hs, A, n, c, rfl, r⟩ := h; exact ⟨hs, A, n, c, rfl, r.below hb hz⟩
theorem OwPairS.kept (h : OwPairS w lo hi v d) (hk : Kept lo' mid w w') (hz : hi ≤ w.heap.size) (hd : mid ≤ lo ∨ hi ≤ lo') : OwPairS w' lo hi v d := by
  obtain ⟨hs, A, n, c, rfl, r⟩ := h; exact ⟨hs, A, n, c, rfl, r.kept hk hz hd⟩
theorem OwPairS.widen (h : OwPairS w lo hi v d) (h1 : lo' ≤ lo) (h2 : hi ≤ hi') : OwPairS w lo' hi' v d := by
  obtain ⟨hs, A, n, c, rfl, r⟩ := h; exact ⟨hs, A, n, c, rfl, r.widen h1 h2⟩
end
theorem OwPairS.nil_ (w : World) (lo hi : Nat) : OwPairS w lo hi (.slice none 0 0) [] := ⟨by simp, none, 0, 0, rfl, by simp [cPair], Nat.le_refl _, .inl rfl⟩
theorem RdPairS.nil_ (w : World) (hi : Nat) : RdPairS w hi (.slice none 0 0) [] := ⟨none, 0, 0, rfl, by omega, by simp [cPair], fun h => by omega⟩

end Go.Proofs.Ytjaejgpihonjhaa
