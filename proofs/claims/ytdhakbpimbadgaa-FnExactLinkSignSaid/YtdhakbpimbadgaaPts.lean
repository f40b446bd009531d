/- Lists of pairs of ints: as cells; what reads and what is owned. -/
import Derived.Test.YtdhakbpimbadgaaFaceI
import Derived.Test.YtdhakbpimbadgaaPts0
import Derived.StillTailTactics
namespace Go.Proofs.Ytdhakbpimbadgaa
open Go.RowKit
set_option maxRecDepth 100000

theorem Rd.plen {w : World} {hi n : Nat} {A : Option Addr} {ps : List (Int × Int)} (h : Rd w hi 2 A n (cP ps)) : ps.length = n := by have := h.1; rw [cP_length] at this; omega
theorem Rd.ptAt {w : World} {hi n k : Nat} {A : Option Addr} {ps : List (Int × Int)} (h : Rd w hi 2 A n (cP ps)) (hk : k < n) :
    ∃ (a : Addr) (x y : Int), A = some a ∧ a.block < hi ∧ w.cell? (a.add (k * 2)) = some (.int .i64 x) ∧ w.cell? ⟨(a.add (k * 2)).block, (a.add (k * 2)).off + 1, none⟩ = some (.int .i64 y) ∧ Hid (ps.getD k (0, 0) = (x, y)) := by
  obtain ⟨a, e, hb, hc⟩ := h.2 (by omega)
  have hl := h.plen
  exact ⟨a, _, _, e, hb, hc _ _ (cP_get1 ps k (by omega)), by rw [add_next _ _ _ (by omega)]; exact hc _ _ (cP_get2 ps k (by omega)), Lib.hid rfl⟩
theorem Ow.plen {w : World} {lo hi e n c : Nat} {A : Option Addr} {ps : List (Int × Int)} (h : Ow w lo hi e 2 A n c (cP ps)) : ps.length = n := by have := h.1; rw [cP_length] at this; omega
theorem two_cells (w : World) (a : Addr) (x y : Value) (h1 : w.cell? a = some x) (h2 : w.cell? (a.add 1) = some y) : w.cell? a = some x ∧ w.cell? (a.add 1) = some y := ⟨h1, h2⟩

/-- make([]T, n) of elements of several cells -/
theorem run_makeN {P : Program} {t e : TypeId} {z : Value} {bytes size : Nat} (ht : P.underlying t = some (.slice e)) (hi : (P.info? e).map (fun i => (i.zero, i.size, i.bytes)) = some (some z, size, bytes))
    (n : Nat) (hb : bytes * n ≤ 281474976710656) (hn : n ≤ 9223372036854775807) (w : World) :
    (Instr.makeSlice t (.int .i64 (n : Int)) (.int .i64 (n : Int))).run P w = .ok (.slice (some ⟨w.heap.size, 0, none⟩) n n) (w.alloc (.cells (madeCells z.cells (n * size)) e)) := by
  obtain ⟨i, hi, hz0, hz1, hz2⟩ := info_parts hi
  have hb' : (i.bytes : Int) * (n : Int) ≤ 281474976710656 := by
    have h : ((i.bytes * n : Nat) : Int) ≤ 281474976710656 := by rw [hz2]; omega
    rwa [Int.natCast_mul] at h
  have hr := run_make (P := P) w t e i z ht hi hz0 .i64 .i64 n n (by omega) (Int.le_refl _) hb' (by omega)
  simp only [Int.toNat_natCast, hz1] at hr
  exact hr
theorem made_pts (n : Nat) : (madeCells #[.int .i64 0, .int .i64 0] (n * 2)).toList = cP (List.replicate n (0, 0)) := by
  have h0 : ∀ (k : Nat), (madeCells #[Value.int .i64 0, .int .i64 0] k).toList = List.replicate k (.int .i64 0) := by
    intro k
    apply List.ext_getElem?
    intro j
    by_cases hj : j < k
    · have h2 : j % 2 = 0 ∨ j % 2 = 1 := by omega
      rcases h2 with h2 | h2 <;> simp [madeCells, hj, h2]
    · simp [madeCells, hj]
  rw [h0]
  induction n with
  | zero => rfl
  | succ n ih => rw [show (n + 1) * 2 = n * 2 + 1 + 1 by omega, List.replicate_succ, List.replicate_succ, ih, List.replicate_succ, cP_cons]
theorem copy_ptstep {ps : List (Int × Int)} {n k : Nat} {x y : Int} (hz : ps.length = n) (hk : k < n) (hp : ps.getD k (0, 0) = (x, y)) : (ps.take k ++ List.replicate (n - k) (0, 0)).set k (x, y) = ps.take (k + 1) ++ List.replicate (n - (k + 1)) (0, 0) := by
  have hl : (ps.take k).length = k := by simp; omega
  rw [List.set_append_right _ _ (by omega), hl, Nat.sub_self, show n - k = (n - (k + 1)) + 1 by omega, List.replicate_succ]
  have hk' : k < ps.length := by omega
  rw [List.set_cons_zero, List.take_succ_eq_append_getElem hk', List.append_assoc, List.singleton_append]
  have : ps[k] = (x, y) := by rw [← hp]; simp [hk']
  rw [this]
/-- a pair stored -/
theorem Ow.setP {w : World} {lo hi e n c g k : Nat} {ps : List (Int × Int)} (h : Ow w lo hi e 2 (some ⟨g, 0, none⟩) n c (cP ps)) (x y : Int) :
    Ow ((w.setCell ⟨g, k * 2, none⟩ (.int .i64 x)).setCell ⟨g, k * 2 + 1, none⟩ (.int .i64 y)) lo hi e 2 (some ⟨g, 0, none⟩) n c (cP (ps.set k (x, y))) := by
  have := (h.set (k * 2) (.int .i64 x)).set (k * 2 + 1) (.int .i64 y)
  rw [cP_set] at this; exact this

/-- pairs marked: K, K + 1; K + 2, K + 3; .. -/
def iotaP (K : Int) (n : Nat) : List (Int × Int) := (List.range n).map fun i : Nat => (K + 2 * (i : Int), K + 2 * (i : Int) + 1)
theorem iotaP_length (K : Int) (n : Nat) : (iotaP K n).length = n := by simp [iotaP]
theorem iotaP_succ (K : Int) (n : Nat) : iotaP K (n + 1) = iotaP K n ++ [(K + 2 * n, K + 2 * n + 1)] := by simp [iotaP, List.range_succ]
theorem mark_ptstep {ps : List (Int × Int)} {n k : Nat} (K : Int) (hz : ps.length = n) (hk : k < n) : (iotaP K k ++ ps.drop k).set k (K + 2 * k, K + 2 * k + 1) = iotaP K (k + 1) ++ ps.drop (k + 1) := by
  have hl := iotaP_length K k
  have hk' : k < ps.length := by omega
  rw [List.set_append_right _ _ (by omega), hl, Nat.sub_self, iotaP_succ, List.append_assoc, List.drop_eq_getElem_cons hk', List.set_cons_zero, List.singleton_append]

end Go.Proofs.Ytdhakbpimbadgaa
