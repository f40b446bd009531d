/- Lists of structs of 3 ints (Gate): as cells; what reads and what is owned; the laws' helpers over them. Made by tools/genflat.py. -/
import Derived.Test.YtlajhgnlllelfaaFaceI
import Derived.Test.YtlajhgnlllelfaaPts
import Derived.StillTailTactics
namespace Go.Proofs.Ytlajhgnlllelfaa
open Go.RowKit
set_option maxRecDepth 100000

def cGate (ps : List (Int × Int × Int)) : List Value := ps.flatMap fun p => [.int .i64 (p.1), .int .i64 (p.2.1), .int .i64 (p.2.2)]
theorem cGate_length (ps : List (Int × Int × Int)) : (cGate ps).length = ps.length * 3 := by
  induction ps with
  | nil => rfl
  | cons p t ih => simp only [cGate, List.flatMap_cons, List.length_append, List.length_cons, List.length_nil] at *; omega
theorem cGate_cons (p : Int × Int × Int) (t : List (Int × Int × Int)) : cGate (p :: t) = .int .i64 (p.1) :: .int .i64 (p.2.1) :: .int .i64 (p.2.2) :: cGate t := rfl
theorem cGate_get0 (ps : List (Int × Int × Int)) (k : Nat) (h : k < ps.length) : (cGate ps)[k * 3]? = some (.int .i64 ((ps.getD k (0, 0, 0)).1)) := by
  induction ps generalizing k with
  | nil => simp at h
  | cons p t ih =>
    cases k with
    | zero => simp [cGate_cons]
    | succ k => rw [cGate_cons, show (k + 1) * 3 = k * 3 + 1 + 1 + 1 by omega, List.getElem?_cons_succ, List.getElem?_cons_succ, List.getElem?_cons_succ, ih k (by simpa using h)]; rfl
theorem cGate_get1 (ps : List (Int × Int × Int)) (k : Nat) (h : k < ps.length) : (cGate ps)[k * 3 + 1]? = some (.int .i64 ((ps.getD k (0, 0, 0)).2.1)) := by
  induction ps generalizing k with
  | nil => simp at h
  | cons p t ih =>
    cases k with
    | zero => simp [cGate_cons]
    | succ k => rw [cGate_cons, show (k + 1) * 3 + 1 = k * 3 + 1 + 1 + 1 + 1 by omega, List.getElem?_cons_succ, List.getElem?_cons_succ, List.getElem?_cons_succ, ih k (by simpa using h)]; rfl
theorem cGate_get2 (ps : List (Int × Int × Int)) (k : Nat) (h : k < ps.length) : (cGate ps)[k * 3 + 2]? = some (.int .i64 ((ps.getD k (0, 0, 0)).2.2)) := by
  induction ps generalizing k with
  | nil => simp at h
  | cons p t ih =>
    cases k with
    | zero => simp [cGate_cons]
    | succ k => rw [cGate_cons, show (k + 1) * 3 + 2 = k * 3 + 2 + 1 + 1 + 1 by omega, List.getElem?_cons_succ, List.getElem?_cons_succ, List.getElem?_cons_succ, ih k (by simpa using h)]; rfl
theorem cGate_set (ps : List (Int × Int × Int)) (k : Nat) (x y z : Int) : (((cGate ps).set (k * 3) (.int .i64 x)).set (k * 3 + 1) (.int .i64 y)).set (k * 3 + 2) (.int .i64 z) = cGate (ps.set k (x, y, z)) := by
  induction ps generalizing k with
  | nil => rfl
  | cons p t ih =>
    cases k with
    | zero => rfl
    | succ k =>
      have e0 : (k + 1) * 3 = k * 3 + 1 + 1 + 1 := by omega
      have e1 : (k + 1) * 3 + 1 = k * 3 + 1 + 1 + 1 + 1 := by omega
      have e2 : (k + 1) * 3 + 2 = k * 3 + 2 + 1 + 1 + 1 := by omega
      rw [cGate_cons, e2, e1, e0, List.set_cons_succ, List.set_cons_succ, List.set_cons_succ, List.set_cons_succ, List.set_cons_succ, List.set_cons_succ, List.set_cons_succ, List.set_cons_succ, List.set_cons_succ, ih k, List.set_cons_succ, cGate_cons]

theorem Rd.Gatelen {w : World} {hi n : Nat} {A : Option Addr} {ps : List (Int × Int × Int)} (h : Rd w hi 3 A n (cGate ps)) : ps.length = n := by have := h.1; rw [cGate_length] at this; omega
theorem Ow.Gatelen {w : World} {lo hi e n c : Nat} {A : Option Addr} {ps : List (Int × Int × Int)} (h : Ow w lo hi e 3 A n c (cGate ps)) : ps.length = n := by have := h.1; rw [cGate_length] at this; omega
theorem Rd.GateAt {w : World} {hi n k : Nat} {A : Option Addr} {ps : List (Int × Int × Int)} (h : Rd w hi 3 A n (cGate ps)) (hk : k < n) :
    ∃ (a : Addr) (x y z : Int), A = some a ∧ a.block < hi ∧ w.cell? (a.add (k * 3)) = some (.int .i64 x) ∧ w.cell? ⟨(a.add (k * 3)).block, (a.add (k * 3)).off + 1, none⟩ = some (.int .i64 y) ∧ w.cell? ⟨(a.add (k * 3)).block, (a.add (k * 3)).off + 2, none⟩ = some (.int .i64 z) ∧ Hid (ps.getD k (0, 0, 0) = (x, y, z)) := by
  obtain ⟨a, e, hb, hc⟩ := h.2 (by omega)
  have hl := h.Gatelen
  exact ⟨a, _, _, _, e, hb, hc _ _ (cGate_get0 ps k (by omega)), by rw [add_next _ _ _ (by omega)]; exact hc _ _ (cGate_get1 ps k (by omega)), by rw [add_next _ _ _ (by omega)]; exact hc _ _ (cGate_get2 ps k (by omega)), Lib.hid rfl⟩

theorem made_Gate (n : Nat) : (madeCells #[.int .i64 0, .int .i64 0, .int .i64 0] (n * 3)).toList = cGate (List.replicate n (0, 0, 0)) := by
  have h0 : ∀ (k : Nat), (madeCells #[Value.int .i64 0, .int .i64 0, .int .i64 0] k).toList = List.replicate k (Value.int .i64 0) := by
    intro k
    apply List.ext_getElem?
    intro j
    by_cases hj : j < k
    · have h2 : j % 3 = 0 ∨ j % 3 = 1 ∨ j % 3 = 2 := by omega
      rcases h2 with h2 | h2 | h2 <;> simp [madeCells, hj, h2]
    · simp [madeCells, hj]
  rw [h0]
  induction n with
  | zero => rfl
  | succ n ih => rw [show (n + 1) * 3 = n * 3 + 1 + 1 + 1 by omega, List.replicate_succ, List.replicate_succ, List.replicate_succ, ih, List.replicate_succ, cGate_cons]
theorem copy_Gate {ps : List (Int × Int × Int)} {n k : Nat} {x y z : Int} (hz : ps.length = n) (hk : k < n) (hp : ps.getD k (0, 0, 0) = (x, y, z)) : (ps.take k ++ List.replicate (n - k) (0, 0, 0)).set k (x, y, z) = ps.take (k + 1) ++ List.replicate (n - (k + 1)) (0, 0, 0) := by
  have hl : (ps.take k).length = k := by simp; omega
  rw [List.set_append_right _ _ (by omega), hl, Nat.sub_self, show n - k = (n - (k + 1)) + 1 by omega, List.replicate_succ]
  have hk' : k < ps.length := by omega
  rw [List.set_cons_zero, List.take_succ_eq_append_getElem hk', List.append_assoc, List.singleton_append]
  have : ps[k] = (x, y, z) := by rw [← hp]; simp [hk']
  rw [this]
/-- one stored -/
theorem Ow.setGate {w : World} {lo hi e n c g k : Nat} {ps : List (Int × Int × Int)} (h : Ow w lo hi e 3 (some ⟨g, 0, none⟩) n c (cGate ps)) (x y z : Int) :
    Ow (((w.setCell ⟨g, k * 3, none⟩ (.int .i64 x)).setCell ⟨g, k * 3 + 1, none⟩ (.int .i64 y)).setCell ⟨g, k * 3 + 2, none⟩ (.int .i64 z)) lo hi e 3 (some ⟨g, 0, none⟩) n c (cGate (ps.set k (x, y, z))) := by
  have := (((h.set (k * 3) (.int .i64 x)).set (k * 3 + 1) (.int .i64 y)).set (k * 3 + 2) (.int .i64 z))
  rw [cGate_set] at this; exact this

/-- marked one behind the other -/
def iotaGate (K : Int) (n : Nat) : List (Int × Int × Int) := (List.range n).map fun i : Nat => (K + 3 * (i : Int), K + 3 * (i : Int) + 1, K + 3 * (i : Int) + 1 + 1)
theorem iotaGate_length (K : Int) (n : Nat) : (iotaGate K n).length = n := by simp [iotaGate]
theorem iotaGate_succ (K : Int) (n : Nat) : iotaGate K (n + 1) = iotaGate K n ++ [(K + 3 * (n : Int), K + 3 * (n : Int) + 1, K + 3 * (n : Int) + 1 + 1)] := by simp [iotaGate, List.range_succ]
theorem iotaGate_get (K : Int) (n k : Nat) (h : k < n) : (iotaGate K n).getD k (0, 0, 0) = (K + 3 * (k : Int), K + 3 * (k : Int) + 1, K + 3 * (k : Int) + 1 + 1) := by simp [iotaGate, h]
theorem mark_Gate {ps : List (Int × Int × Int)} {n k : Nat} (K : Int) (hz : ps.length = n) (hk : k < n) : (iotaGate K k ++ ps.drop k).set k (K + 3 * (k : Int), K + 3 * (k : Int) + 1, K + 3 * (k : Int) + 1 + 1) = iotaGate K (k + 1) ++ ps.drop (k + 1) := by
  have hl := iotaGate_length K k
  have hk' : k < ps.length := by omega
  rw [List.set_append_right _ _ (by omega), hl, Nat.sub_self, iotaGate_succ, List.append_assoc, List.drop_eq_getElem_cons hk', List.set_cons_zero, List.singleton_append]

/-! as whole values -/
def RdGateS (w : World) (hi : Nat) (v : Value) (d : List (Int × Int × Int)) : Prop := ∃ A n c, v = .slice A n c ∧ n ≤ 9223372036854775807 ∧ Rd w hi 3 A n (cGate d)
def szGateS (d : List (Int × Int × Int)) : Nat := d.length
def mkGateS (K : Int) (d : List (Int × Int × Int)) : List (Int × Int × Int) := iotaGate K d.length
section
variable {w w' : World} {lo hi lo' hi' B mid : Nat} {v : Value} {d : List (Int × Int × Int)}
theorem RdGateS.below (h : RdGateS w hi v d) (hb : Below hi w w') : RdGateS w' hi v d := by
  obtain ⟨A, n, c, rfl, hn, r⟩ := h; exact ⟨A, n, c, rfl, hn, r.below hb⟩
theorem RdGateS.more (h : RdGateS w hi v d) (hh : hi ≤ hi') : RdGateS w hi' v d := by
  obtain ⟨A, n, c, rfl, hn, r⟩ := h; exact ⟨A, n, c, rfl, hn, r.more hh⟩
end
theorem RdGateS.nil_ (w : World) (hi : Nat) : RdGateS w hi (.slice none 0 0) [] := ⟨none, 0, 0, rfl, by omega, by simp [cGate], fun h => by omega⟩

end Go.Proofs.Ytlajhgnlllelfaa
