/- Chapters 15 and 16: one of several, rings that sign: what both sides answer. No word of a program. -/
import Derived.Test.YtdhakbpimbadgaaMath20
import Derived.Test.YtdhakbpimbadgaaEls
import Derived.Test.YtdhakbpimbadgaaIn
namespace Go.Proofs.Ytdhakbpimbadgaa
set_option maxRecDepth 100000

abbrev Pf := Int × Int × Int
abbrev Tw := Int × Int × Int × Int
def keysB (ks : List Int) : Bool := inB ks.length 1 6 && elsB ks
/-- the secret is that of the key with the index -/
def ownB (ks : List Int) (i s : Int) : Bool := inB i 0 ((ks.length : Int) - 1) && (numB s && decide (powI 4 s 227 = ks.getD i.toNat 0))
def emakeB (ks : List Int) (i s ch : Int) (tp : List Int) : Bool := keysB ks && (ownB ks i s && (numB ch && (decide (tp.length = 2 * ks.length) && numsB tp)))
/-- what is left of a challenge behind the first k keys but one -/
def restK (tp : List Int) (i : Nat) (ch : Int) : Nat → Int
  | 0 => ch
  | k + 1 => if k = i then restK tp i ch k else (restK tp i ch k - tp.getD (2 * k) 0) % 113
theorem restK_bd {tp : List Int} {i : Nat} {ch : Int} (h : 0 ≤ ch ∧ ch ≤ 112) (k : Nat) : 0 ≤ restK tp i ch k ∧ restK tp i ch k ≤ 112 := by
  induction k with
  | zero => exact h
  | succ k ih => unfold restK; split <;> omega
def otherP (ks tp : List Int) (j : Nat) : Pf := (backI 4 (ks.getD j 0) (tp.getD (2 * j + 1) 0) (tp.getD (2 * j) 0), tp.getD (2 * j) 0, tp.getD (2 * j + 1) 0)
def ownP (s n c : Int) : Pf := (powI 4 n 227, c, (n + c * s) % 113)
def emakeL (ks : List Int) (i : Nat) (s ch : Int) (tp : List Int) : List Pf := ((List.range ks.length).map (otherP ks tp)).set i (ownP s (tp.getD (2 * i) 0) (restK tp i ch ks.length))
def R_EitherMake_1 (ks : List Int) (i s ch : Int) (tp : List Int) : Bool := emakeB ks i s ch tp
def R_EitherMake_0 (ks : List Int) (i s ch : Int) (tp : List Int) : List Pf := if emakeB ks i s ch tp = true then emakeL ks i.toNat s ch tp else []
theorem emakeL_length (ks : List Int) (i : Nat) (s ch : Int) (tp : List Int) : (emakeL ks i s ch tp).length = ks.length := by simp [emakeL]

def pfGood (k : Int) (p : Pf) : Bool := goodB k p.1 p.2.1 p.2.2
def goodsK (ks : List Int) (l : List Pf) : Nat → Bool
  | 0 => true
  | k + 1 => goodsK ks l k && pfGood (ks.getD k 0) (l.getD k (0, 0, 0))
def chalK (l : List Pf) : Nat → Int
  | 0 => 0
  | k + 1 => (chalK l k + (l.getD k (0, 0, 0)).2.1) % 113
def goodsB (ks : List Int) (l : List Pf) : Bool := decide (l.length = ks.length) && goodsK ks l ks.length
def egoodB (ks : List Int) (ch : Int) (l : List Pf) : Bool := keysB ks && (numB ch && (goodsB ks l && decide (chalK l l.length = ch)))
theorem goodsK_at {ks : List Int} {l : List Pf} {n k : Nat} (h : goodsK ks l n = true) (hk : k < n) : pfGood (ks.getD k 0) (l.getD k (0, 0, 0)) = true := by
  induction n with
  | zero => omega
  | succ n ih =>
    simp only [goodsK, Bool.and_eq_true] at h
    by_cases e : k = n
    · subst e; exact h.2
    · exact ih h.1 (by omega)
theorem goodsK_no {ks : List Int} {l : List Pf} {n k : Nat} (hk : k < n) (h : pfGood (ks.getD k 0) (l.getD k (0, 0, 0)) = false) : goodsK ks l n = false := by
  cases e : goodsK ks l n
  · rfl
  · rw [goodsK_at e hk] at h; cases h
theorem goodsK_more {ks : List Int} {l : List Pf} {n m : Nat} (h : goodsK ks l n = true) (hm : m ≤ n) : goodsK ks l m = true := by
  induction n with
  | zero => obtain rfl : m = 0 := by omega
            exact h
  | succ n ih =>
    by_cases e : m = n + 1
    · subst e; exact h
    · simp only [goodsK, Bool.and_eq_true] at h; exact ih h.1 (by omega)
theorem pfGood_nums {k : Int} {p : Pf} (h : pfGood k p = true) : (1 ≤ p.1 ∧ p.1 ≤ 226) ∧ (0 ≤ p.2.1 ∧ p.2.1 ≤ 112) ∧ (0 ≤ p.2.2 ∧ p.2.2 ≤ 112) := by
  simp only [pfGood, goodB, Bool.and_eq_true] at h
  exact ⟨elB_range h.2.1, (numB_iff _).1 h.2.2.1, (numB_iff _).1 h.2.2.2.1⟩
theorem chalK_bd (l : List Pf) (k : Nat) : -112 ≤ chalK l k ∧ chalK l k ≤ 112 := by
  induction k with
  | zero => simp [chalK]
  | succ k ih => unfold chalK; omega
theorem chalK_bd0 (l : List Pf) (k : Nat) : 0 ≤ chalK l k ∧ chalK l k ≤ 112 := by
  induction k with
  | zero => simp [chalK]
  | succ k ih => unfold chalK; omega

/-- the first place at which challenges differ -/
def diffP (a b : List Pf) (n : Nat) : Nat → Nat
  | 0 => n
  | f + 1 => if (a.getD (n - (f + 1)) (0, 0, 0)).2.1 = (b.getD (n - (f + 1)) (0, 0, 0)).2.1 then diffP a b n f else n - (f + 1)
def comsK (a b : List Pf) : Nat → Bool
  | 0 => true
  | k + 1 => comsK a b k && decide ((a.getD k (0, 0, 0)).1 = (b.getD k (0, 0, 0)).1)
def esecB (ks : List Int) (a b : List Pf) : Bool :=
  keysB ks && (goodsB ks a && (goodsB ks b && (comsK a b ks.length && (decide (chalK a ks.length ≠ chalK b ks.length) && decide (diffP a b ks.length ks.length < ks.length)))))
def secI (p q : Pf) : Int := (p.2.2 - q.2.2) % 113 * powI ((p.2.1 - q.2.1) % 113) 111 113 % 113
def esecI (ks : List Int) (a b : List Pf) : Int := if esecB ks a b = true then (diffP a b ks.length ks.length : Nat) else 0
def esecV (ks : List Int) (a b : List Pf) : Int := if esecB ks a b = true then secI (a.getD (diffP a b ks.length ks.length) (0, 0, 0)) (b.getD (diffP a b ks.length ks.length) (0, 0, 0)) else 0
theorem diffP_step {a b : List Pf} {n k : Nat} (hk : k < n) : diffP a b n (n - k) = if (a.getD k (0, 0, 0)).2.1 = (b.getD k (0, 0, 0)).2.1 then diffP a b n (n - (k + 1)) else k := by
  rw [show n - k = (n - (k + 1)) + 1 by omega, diffP, show n - (n - (k + 1) + 1) = k by omega]

def tapeJ (l : List Pf) (i : Nat) (s : Int) (j : Nat) : List Int := if j = i then [((l.getD j (0, 0, 0)).2.2 - (l.getD j (0, 0, 0)).2.1 * s % 113) % 113, 0] else [(l.getD j (0, 0, 0)).2.1, (l.getD j (0, 0, 0)).2.2]
def tapeL (l : List Pf) (i : Nat) (s : Int) (n : Nat) : List Int := (List.range n).flatMap (tapeJ l i s)
theorem tapeL_succ (l : List Pf) (i : Nat) (s : Int) (n : Nat) : tapeL l i s (n + 1) = tapeL l i s n ++ tapeJ l i s n := by simp [tapeL, List.range_succ]
theorem tapeL_length (l : List Pf) (i : Nat) (s : Int) (n : Nat) : (tapeL l i s n).length = 2 * n := by
  induction n with
  | zero => rfl
  | succ n ih => rw [tapeL_succ, List.length_append, ih]; unfold tapeJ; split <;> simp <;> omega
def etapeB (ks : List Int) (l : List Pf) (i s : Int) : Bool := keysB ks && (ownB ks i s && goodsB ks l)
def R_EitherTape_1 (ks : List Int) (l : List Pf) (i s : Int) : Bool := etapeB ks l i s
def R_EitherTape_0 (ks : List Int) (l : List Pf) (i s : Int) : List Int := if etapeB ks l i s = true then tapeL l i.toNat s ks.length else []
end Go.Proofs.Ytdhakbpimbadgaa
