/- Chapter 12: look-ups, the mathematics of both sides. No word of a program. -/
import Derived.Test.YtbnobkojkfmccaaWalk5n
import Derived.Test.YtbnobkojkfmccaaFaceB
import Derived.Test.YtbnobkojkfmccaaIdx
namespace Go.Proofs.Ytbnobkojkfmccaa
open Go.RowKit
set_option maxRecDepth 100000

def tabB (t : List Int) : Bool := inB t.length 1 16 && numsB t
def pairB (s : List Bool) (i : Int) : Bool := inB s.length 1 16 && inB i 0 (s.length - 1)
def R_PairAsk_2 (s : List Bool) (i : Int) : Bool := pairB s i
def R_PairAsk_0 (s : List Bool) (i : Int) : List Bool := if pairB s i = true then s else []
def R_PairAsk_1 (s : List Bool) (i : Int) : List Bool := if pairB s i = true then s.set i.toNat (!s.getD i.toNat false) else []
/-- the sum of the first k entries in a set -/
def setK (t : List Int) (s : List Bool) : Nat → Int
  | 0 => 0
  | k + 1 => if s.getD k false = true then (setK t s k + t.getD k 0) % 113 else setK t s k
def answB (t : List Int) (s : List Bool) : Bool := tabB t && decide (s.length = t.length)
def answV (t : List Int) (s : List Bool) : Int := if answB t s = true then setK t s t.length else 0
def ptakeB (s : List Bool) (a b i : Int) : Bool := pairB s i && (numB a && numB b)
def ptakeV (s : List Bool) (a b i : Int) : Int := if ptakeB s a b i = true then (if s.getD i.toNat false = true then (a - b) % 113 else (b - a) % 113) else 0
def maskB (i n : Int) (t : List Int) : Bool := inB i 0 15 && (inB n 1 20 && (decide (t.length ≤ 7) && numsB t))
/-- the values of a polynomial at 1, 2, .. -/
def vals (cs : List Int) (n : Nat) : List Int := (List.range n).map fun k : Nat => atI cs ((k : Int) + 1)
def R_ManyAsk_1 (i n : Int) (t : List Int) : Bool := maskB i n t
def R_ManyAsk_0 (i n : Int) (t : List Int) : List Int := if maskB i n t = true then vals (i :: t) n.toNat else []
/-- numbers as points, from a first number on -/
def ptsOf (f : Nat) (t : List Int) : List (Int × Int) := (List.range t.length).map fun i => (((f + i : Nat) : Int), t.getD i 0)
def mansB (t : List Int) (p : Int) : Bool := tabB t && numB p
def mansV (t : List Int) (p : Int) : Int := if mansB t p = true then atI (thrS (ptsOf 0 t) t.length t.length) p else 0
def mtakB (a : List Int) : Bool := inB a.length 1 20 && numsB a
def mtakV (a : List Int) : Int := if mtakB a = true then atI (thrS (ptsOf 1 a) a.length a.length) 0 else 0
def mexpB (i : Int) (d : List (Int × Int)) : Bool := inB i 0 15 && (decide (d.length ≤ 7) && shB d 112)
def R_ManyExplain_1 (i : Int) (d : List (Int × Int)) : Bool := mexpB i d
def R_ManyExplain_0 (i : Int) (d : List (Int × Int)) : List Int := if mexpB i d = true then expL i d else []

theorem setK_bd (t : List Int) (s : List Bool) (k : Nat) : 0 ≤ setK t s k ∧ setK t s k ≤ 112 := by
  induction k with
  | zero => exact ⟨by simp [setK], by simp [setK]⟩
  | succ k ih => unfold setK; split <;> omega
theorem vals_succ (cs : List Int) (n : Nat) : vals cs (n + 1) = vals cs n ++ [atI cs ((n : Int) + 1)] := by simp [vals, List.range_succ]
theorem vals_length (cs : List Int) (n : Nat) : (vals cs n).length = n := by simp [vals]
theorem vals_get (cs : List Int) (n k : Nat) (h : k < n) : (vals cs n).getD k 0 = atI cs ((k : Int) + 1) := by simp [vals, h]
theorem ptsOf_length (f : Nat) (t : List Int) : (ptsOf f t).length = t.length := by simp [ptsOf]
theorem px_ptsOf (f : Nat) (t : List Int) (i : Nat) (h : i < t.length) : px (ptsOf f t) i = ((f + i : Nat) : Int) := by simp [px, ptsOf, h]
theorem py_ptsOf (f : Nat) (t : List Int) (i : Nat) (h : i < t.length) : py (ptsOf f t) i = t.getD i 0 := by simp [py, ptsOf, h]
theorem ptsOf_good (f : Nat) (t : List Int) (hf : f + t.length ≤ 113) (ht : Nums t) : Good (ptsOf f t) t.length :=
  ⟨fun i hi => by rw [px_ptsOf f t i hi]; omega, fun i hi => by rw [py_ptsOf f t i hi]; exact ht i, fun i j hi hj hij => by rw [px_ptsOf f t i hi, px_ptsOf f t j hj]; omega⟩
/-- the first k of them -/
def ptsU (f : Nat) (t : List Int) (k : Nat) : List (Int × Int) := (List.range k).map fun i => (((f + i : Nat) : Int), t.getD i 0)
theorem ptsU_len (f : Nat) (t : List Int) : ptsU f t t.length = ptsOf f t := rfl
theorem ptsU_succ {f k : Nat} {t : List Int} {p x : Int} (hp : p = ((f + k : Nat) : Int)) (hx : x = t.getD k 0) : ptsU f t (k + 1) = ptsU f t k ++ [(p, x)] := by
  subst hp; subst hx; simp [ptsU, List.range_succ]
theorem uptoF_getD2 (f : Nat → Int × Int) {k i : Nat} (h : i < k) : (uptoF f k).getD i (0, 0) = f i := by simp [uptoF, h]
theorem uptoF_ptsOf (f : Nat) (t : List Int) : uptoF (fun i => (((f + i : Nat) : Int), t.getD i 0)) t.length = ptsOf f t := rfl
theorem okK_of2 {ps : List (Int × Int)} {n : Nat} (h : Good ps n) : okK ps n = true := by
  have go : ∀ k, k ≤ n → okK ps k = true := fun k => by
    induction k with
    | zero => intro _; rfl
    | succ k ih =>
      intro hk
      rw [okK_step, ih (by omega), (numB_iff _).2 (h.x0 k (by omega)), (numB_iff _).2 (h.y0 k (by omega))]
      have : seenB ps k (px ps k) = false := by
        apply Bool.eq_false_iff.2
        intro ht
        obtain ⟨i, hi, he⟩ := (seenB_iff ps k _).1 ht
        exact h.ne i k (by omega) (by omega) (by omega) he
      rw [this]; rfl
  exact go n (Nat.le_refl _)
theorem okK_nums {ps : List (Int × Int)} {n : Nat} (h : okK ps n = true) : ∀ i, i < n → 0 ≤ py ps i ∧ py ps i ≤ 112 := fun i hi => (Good.of h).y0 i hi
/-- what ManyTake asks is what SharesJoin asks of these points -/
theorem join_ptsOf (a : List Int) (h20 : a.length ≤ 20) : joinB (ptsOf 1 a) = mtakB a := by
  unfold joinB mtakB shB ptsB
  rw [ptsOf_length]
  cases hn : numsB a
  · rw [Bool.and_false]
    have : okK (ptsOf 1 a) a.length = false := by
      apply Bool.eq_false_iff.2
      intro h
      have hN : Nums a := fun i => by
        by_cases hi : i < a.length
        · have := okK_nums h i hi
          rwa [py_ptsOf 1 a i hi] at this
        · rw [List.getD_eq_getElem?_getD, List.getElem?_eq_none (by omega)]; simp
      rw [B_of_nums hN] at hn; cases hn
    rw [this]; simp
  · have hg := okK_of2 (ptsOf_good 1 a (by omega) (nums_of_B hn))
    have hx : ∀ k, k ≤ a.length → xsK (ptsOf 1 a) 112 k = true := by
      intro k hk
      induction k with
      | zero => rfl
      | succ k ih => rw [xsK, ih (by omega), px_ptsOf 1 a k (by omega)]; simp; omega
    rw [hg, hx _ (Nat.le_refl _)]
    unfold inB
    rw [decide_eq_true h20, show decide ((a.length : Int) ≤ 20) = true from decide_eq_true (by omega)]
    by_cases h0 : 0 < a.length
    · rw [decide_eq_true h0, show decide ((1 : Int) ≤ (a.length : Int)) = true from decide_eq_true (by omega)]; rfl
    · rw [decide_eq_false h0, show decide ((1 : Int) ≤ (a.length : Int)) = false from decide_eq_false (by omega)]; rfl
theorem exp_good2 {s top : Int} {d : List (Int × Int)} (hs : 0 ≤ s ∧ s ≤ 112) (h : shB d top = true) : Good ((0, s) :: d) (1 + d.length) := by
  simp only [shB, Bool.and_eq_true] at h
  have hg := (shB_good rfl h.1).1
  have hx := fun i (hi : i < d.length) => xsK_at h.2 hi
  have p0 : px ((0, s) :: d) 0 = 0 := rfl
  have q0 : py ((0, s) :: d) 0 = s := rfl
  have p1 : ∀ i, px ((0, s) :: d) (i + 1) = px d i := fun i => by simp [px]
  have q1 : ∀ i, py ((0, s) :: d) (i + 1) = py d i := fun i => by simp [py]
  refine ⟨fun i hi => ?_, fun i hi => ?_, fun i j hi hj hij => ?_⟩
  · cases i with
    | zero => rw [p0]; omega
    | succ i => rw [p1]; exact hg.x0 i (by omega)
  · cases i with
    | zero => rw [q0]; exact hs
    | succ i => rw [q1]; exact hg.y0 i (by omega)
  · cases i with
    | zero =>
      cases j with
      | zero => exact absurd rfl hij
      | succ j => rw [p0, p1]; have := hx j (by omega); omega
    | succ i =>
      cases j with
      | zero => rw [p0, p1]; have := hx i (by omega); omega
      | succ j => rw [p1, p1]; exact hg.ne i j (by omega) (by omega) (by omega)
end Go.Proofs.Ytbnobkojkfmccaa
