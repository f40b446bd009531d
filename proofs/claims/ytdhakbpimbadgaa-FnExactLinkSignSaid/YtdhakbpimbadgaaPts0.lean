/- Pairs as cells. -/
import Derived.Test.YtdhakbpimbadgaaBase
namespace Go.Proofs.Ytdhakbpimbadgaa
open Go.RowKit

/-- pairs as cells -/
def cP (ps : List (Int × Int)) : List Value := ps.flatMap fun p => [.int .i64 p.1, .int .i64 p.2]
theorem cP_length (ps : List (Int × Int)) : (cP ps).length = ps.length * 2 := by
  induction ps with
  | nil => rfl
  | cons p t ih => simp only [cP, List.flatMap_cons, List.length_append, List.length_cons, List.length_nil] at *; omega
theorem cP_cons (p : Int × Int) (t : List (Int × Int)) : cP (p :: t) = .int .i64 p.1 :: .int .i64 p.2 :: cP t := rfl
theorem cP_get1 (ps : List (Int × Int)) (k : Nat) (h : k < ps.length) : (cP ps)[k * 2]? = some (.int .i64 (ps.getD k (0, 0)).1) := by
  induction ps generalizing k with
  | nil => simp at h
  | cons p t ih =>
    cases k with
    | zero => simp [cP_cons]
    | succ k => rw [cP_cons, show (k + 1) * 2 = k * 2 + 1 + 1 by omega, List.getElem?_cons_succ, List.getElem?_cons_succ, ih k (by simpa using h)]; rfl
theorem cP_get2 (ps : List (Int × Int)) (k : Nat) (h : k < ps.length) : (cP ps)[k * 2 + 1]? = some (.int .i64 (ps.getD k (0, 0)).2) := by
  induction ps generalizing k with
  | nil => simp at h
  | cons p t ih =>
    cases k with
    | zero => simp [cP_cons]
    | succ k => rw [cP_cons, show (k + 1) * 2 + 1 = k * 2 + 1 + 1 + 1 by omega, List.getElem?_cons_succ, List.getElem?_cons_succ, ih k (by simpa using h)]; rfl
theorem cP_set (ps : List (Int × Int)) (k : Nat) (x y : Int) : ((cP ps).set (k * 2) (.int .i64 x)).set (k * 2 + 1) (.int .i64 y) = cP (ps.set k (x, y)) := by
  induction ps generalizing k with
  | nil => rfl
  | cons p t ih =>
    cases k with
    | zero => rfl
    | succ k =>
      rw [cP_cons, show (k + 1) * 2 = k * 2 + 1 + 1 by omega, List.set_cons_succ, List.set_cons_succ, List.set_cons_succ, List.set_cons_succ, ih k, List.set_cons_succ, cP_cons]
theorem add_next (a : Addr) (i j : Nat) (hj : 0 < j) : (⟨(a.add i).block, (a.add i).off + j, none⟩ : Addr) = a.add (i + j) := by
  unfold Addr.add
  rw [if_neg (show ¬ i + j = 0 by omega)]
  by_cases h : i = 0
  · simp [h]
  · simp [h, Nat.add_assoc]
end Go.Proofs.Ytdhakbpimbadgaa
