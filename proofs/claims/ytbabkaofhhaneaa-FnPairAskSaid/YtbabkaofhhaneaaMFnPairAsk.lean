import Derived.Test.YtbabkaofhhaneaaWalk5g
import Derived.Test.YtbabkaofhhaneaaWalk3a
import Derived.Test.YtbabkaofhhaneaaWalk2a
import Derived.Test.YtbabkaofhhaneaaFaceB
import Derived.Test.YtbabkaofhhaneaaWalk1
import Derived.Test.YtbabkaofhhaneaaFaceI
import Derived.Test.YtbabkaofhhaneaaPts
import Derived.StillTailTactics
import Derived.Test.YtbabkaofhhaneaaSS2
import Derived.Test.YtbabkaofhhaneaaWalk2b
import Derived.Test.YtbabkaofhhaneaaAppend
import Derived.Test.YtbabkaofhhaneaaDraw14
import Derived.Test.YtbabkaofhhaneaaDraw2b
import Derived.Test.YtbabkaofhhaneaaLaw
/- Chapter 4: the list of what an iterator over shares gives, over SharesScale's closure. -/
namespace Go.Proofs.Ytbabkaofhhaneaa
open Go.RowKit Go.Shelf
set_option maxRecDepth 100000
attribute [local go_sem] Oper.semAt_some

theorem run_make0 {P : Program} {t e : TypeId} {z : Value} {bytes size : Nat} (ht : P.underlying t = some (.slice e)) (hi : (P.info? e).map (fun i => (i.zero, i.size, i.bytes)) = some (some z, size, bytes))
    (n : Nat) (hb : bytes * n ≤ 281474976710656) (hn : n ≤ 9223372036854775807) (w : World) :
    (Instr.makeSlice t (.int .i64 0) (.int .i64 (n : Int))).run P w = .ok (.slice (some ⟨w.heap.size, 0, none⟩) 0 n) (w.alloc (.cells (madeCells z.cells (n * size)) e)) := by
  obtain ⟨i, hi, hz0, hz1, hz2⟩ := info_parts hi
  have hb' : (i.bytes : Int) * (n : Int) ≤ 281474976710656 := by
    have h : ((i.bytes * n : Nat) : Int) ≤ 281474976710656 := by rw [hz2]; omega
    rwa [Int.natCast_mul] at h
  have hr := run_make (P := P) w t e i z ht hi hz0 .i64 .i64 0 n (by omega) (by omega) hb' (by omega)
  simp only [Int.toNat_natCast, hz1] at hr
  exact hr
theorem own_make0 (w : World) (cs : Array Value) (e size n : Nat) (hs : cs.size = n * size) (hn : n ≤ maxLen) : (w.alloc (.cells cs e)).ownsRow w.heap.size e size (.slice (some ⟨w.heap.size, 0, none⟩) 0 n) 0 [] :=
  ⟨by simp, .inr ⟨w.heap.size, n, cs, rfl, Nat.le_refl _, heap_alloc_new _ _, Nat.zero_le _, hn, hs, by simp⟩⟩
theorem cell_two_new (w : World) (x y : Value) (t : TypeId) : ∀ j u, [x, y][j]? = some u → (w.alloc (.cells #[x, y] t)).cell? ((⟨w.heap.size, 0, none⟩ : Addr).add j) = some u := by
  intro j u hj
  rw [addr_add, Nat.zero_add, World.cell?_alloc_new]
  simpa using hj
theorem madeCells_size (z : Array Value) (n : Nat) : (madeCells z n).size = n := by simp [madeCells]

end Go.Proofs.Ytbabkaofhhaneaa

/- Chapter 4: SharesOf in the model. -/
namespace Go.Proofs.Ytbabkaofhhaneaa
open Go.RowKit Go.Shelf
set_option maxRecDepth 100000

def shF (cs : List Int) (i : Nat) : Int × Int := ((i : Int) + 1, atI cs ((i : Int) + 1))
def ofB (s n : Int) (t : List Int) : Bool := numB s && (numsB t && (inB n 1 7 && decide ((t.length : Int) < n)))
def R_SharesOf_1 (s n : Int) (t : List Int) : Bool := ofB s n t
def R_SharesOf_0 (s n : Int) (t : List Int) : List (Int × Int) := if ofB s n t = true then uptoF (shF (s :: t)) n.toNat else []
theorem of_no {s n : Int} {t : List Int} (h : ofB s n t = false) : Hid (R_SharesOf_1 s n t = false ∧ R_SharesOf_0 s n t = []) := Lib.hid ⟨h, by unfold R_SharesOf_0; rw [h]; rfl⟩
theorem nums_cons {s : Int} {t : List Int} (h : 0 ≤ s ∧ s ≤ 112) (ht : Nums t) : Nums (s :: t) := fun j => by
  cases j with
  | zero => exact h
  | succ j => exact ht j
theorem lit_int (w : World) (s : Int) : (w.alloc (.cells #[.int .i64 s] 3)).ownsRow w.heap.size 3 1 (.slice (some ⟨w.heap.size, 0, none⟩) 1 1) 1 [.int .i64 s] :=
  ⟨rfl, .inr ⟨w.heap.size, 1, _, rfl, Nat.le_refl _, heap_alloc_new _ _, Nat.le_refl _, by unfold maxLen; omega, rfl, rfl⟩⟩
/-- another row is none of this type's blocks -/
theorem own_other {w : World} {B e t n s g : Nat} {v : Value} {xs : List Value} {cs : Array Value} (h : w.ownsRow B e s v n xs) (hte : e ≠ t) (hg : w.heap[g]? = some (.cells cs t (0, 0))) : v.ownBlock ≠ some g := by
  intro e1
  rcases h.2 with ⟨rfl, _⟩ | ⟨g', cap, cur, rfl, _, hh, _⟩
  · simp [Value.ownBlock] at e1
  · simp [Value.ownBlock] at e1
    subst e1
    rw [hg] at hh; injection hh with hh; injection hh with _ ht
    exact hte ht.symm

end Go.Proofs.Ytbabkaofhhaneaa

/- Whether an index lies in a list's length. -/
namespace Go.Proofs.Ytbabkaofhhaneaa
open Go.RowKit
set_option maxRecDepth 100000

set_option maxHeartbeats 1000000 in
theorem i_indexOk (i n : Int) (w : World) :
    Calls Try.prog 59 #[.int .i64 i, .int .i64 n] w fun e w' => e = .returned (.bool (inB i 0 (n - 1))) ∧ w = w' := by
  by_cases h1 : 0 ≤ i
  · by_cases h2 : i < n
    · have HF : Hid (inB i 0 (n - 1) = true) := Lib.hid (inB_t ⟨h1, by omega⟩)
      go_enter Try.func59, Try.ntmps59
      go_wp2
      go_ret
      exact ⟨ret_bool HF.out.symm, rfl⟩
    · have HF : Hid (inB i 0 (n - 1) = false) := Lib.hid (inB_f (by omega))
      go_enter Try.func59, Try.ntmps59
      go_wp2
      go_ret
      exact ⟨ret_bool HF.out.symm, rfl⟩
  · have HF : Hid (inB i 0 (n - 1) = false) := Lib.hid (inB_f (by omega))
    have q : i < 0 := by omega
    go_enter Try.func59, Try.ntmps59
    go_wp2
    go_ret
    exact ⟨ret_bool HF.out.symm, rfl⟩
end Go.Proofs.Ytbabkaofhhaneaa

/- Chapter 12: look-ups, the mathematics of both sides. No word of a program. -/
namespace Go.Proofs.Ytbabkaofhhaneaa
open Go.RowKit
set_option maxRecDepth 100000

def tabB (t : List Int) : Bool := inB t.length 1 16 && numsB t
def pairB (s : List Bool) (i : Int) : Bool := inB s.length 1 16 && inB i 0 (s.length - 1)
def R_PairAsk_2 (s : List Bool) (i : Int) : Bool := pairB s i
def R_PairAsk_0 (s : List Bool) (i : Int) : List Bool := if pairB s i = true then s else []
def R_PairAsk_1 (s : List Bool) (i : Int) : List Bool := if pairB s i = true then s.set i.toNat (!s.getD i.toNat false) else []
/-- the sum of the first k entries in a set -/
def sumK (t : List Int) (s : List Bool) : Nat → Int
  | 0 => 0
  | k + 1 => if s.getD k false = true then (sumK t s k + t.getD k 0) % 113 else sumK t s k
def answB (t : List Int) (s : List Bool) : Bool := tabB t && decide (s.length = t.length)
def answV (t : List Int) (s : List Bool) : Int := if answB t s = true then sumK t s t.length else 0
def ptakeB (s : List Bool) (a b i : Int) : Bool := pairB s i && (numB a && numB b)
def ptakeV (s : List Bool) (a b i : Int) : Int := if ptakeB s a b i = true then (if s.getD i.toNat false = true then (a - b) % 113 else (b - a) % 113) else 0
def maskB (i n : Int) (t : List Int) : Bool := inB i 0 15 && (inB n 1 20 && (decide (t.length ≤ 7) && numsB t))
/-- the values of a polynomial at 1, 2, .. -/
def vals (cs : List Int) (n : Nat) : List Int := (List.range n).map fun k : Nat => atI cs ((k : Int) + 1)
def R_ManyAsk_1 (i n : Int) (t : List Int) : Bool := maskB i n t
def R_ManyAsk_0 (i n : Int) (t : List Int) : List Int := if maskB i n t = true then vals (i :: t) n.toNat else []
/-- numbers as points, from a first number on -/
def ptsOf (f : Nat) (t : List Int) : List (Int × Int) := (List.range t.length).map fun i => (((f + i : Nat) : Int), t.getD i 0)
def mansB (t : List Int) (p : Int) : Bool := tabB t && numB p
def mansV (t : List Int) (p : Int) : Int := if mansB t p = true then atI (thrS (ptsOf 0 t) t.length t.length) p else 0
def mtakB (a : List Int) : Bool := inB a.length 1 20 && numsB a
def mtakV (a : List Int) : Int := if mtakB a = true then atI (thrS (ptsOf 1 a) a.length a.length) 0 else 0
def mexpB (i : Int) (d : List (Int × Int)) : Bool := inB i 0 15 && (decide (d.length ≤ 7) && shB d 112)
def R_ManyExplain_1 (i : Int) (d : List (Int × Int)) : Bool := mexpB i d
def R_ManyExplain_0 (i : Int) (d : List (Int × Int)) : List Int := if mexpB i d = true then expL i d else []

theorem sumK_bd (t : List Int) (s : List Bool) (k : Nat) : 0 ≤ sumK t s k ∧ sumK t s k ≤ 112 := by
  induction k with
  | zero => exact ⟨by simp [sumK], by simp [sumK]⟩
  | succ k ih => unfold sumK; split <;> omega
theorem vals_succ (cs : List Int) (n : Nat) : vals cs (n + 1) = vals cs n ++ [atI cs ((n : Int) + 1)] := by simp [vals, List.range_succ]
theorem vals_length (cs : List Int) (n : Nat) : (vals cs n).length = n := by simp [vals]
theorem vals_get (cs : List Int) (n k : Nat) (h : k < n) : (vals cs n).getD k 0 = atI cs ((k : Int) + 1) := by simp [vals, h]
theorem ptsOf_length (f : Nat) (t : List Int) : (ptsOf f t).length = t.length := by simp [ptsOf]
theorem px_ptsOf (f : Nat) (t : List Int) (i : Nat) (h : i < t.length) : px (ptsOf f t) i = ((f + i : Nat) : Int) := by simp [px, ptsOf, h]
theorem py_ptsOf (f : Nat) (t : List Int) (i : Nat) (h : i < t.length) : py (ptsOf f t) i = t.getD i 0 := by simp [py, ptsOf, h]
theorem ptsOf_good (f : Nat) (t : List Int) (hf : f + t.length ≤ 113) (ht : Nums t) : Good (ptsOf f t) t.length :=
  ⟨fun i hi => by rw [px_ptsOf f t i hi]; omega, fun i hi => by rw [py_ptsOf f t i hi]; exact ht i, fun i j hi hj hij => by rw [px_ptsOf f t i hi, px_ptsOf f t j hj]; omega⟩
/-- the first k of them -/
def ptsU (f : Nat) (t : List Int) (k : Nat) : List (Int × Int) := (List.range k).map fun i => (((f + i : Nat) : Int), t.getD i 0)
theorem ptsU_len (f : Nat) (t : List Int) : ptsU f t t.length = ptsOf f t := rfl
theorem ptsU_succ {f k : Nat} {t : List Int} {p x : Int} (hp : p = ((f + k : Nat) : Int)) (hx : x = t.getD k 0) : ptsU f t (k + 1) = ptsU f t k ++ [(p, x)] := by
  subst hp; subst hx; simp [ptsU, List.range_succ]
theorem uptoF_getD2 (f : Nat → Int × Int) {k i : Nat} (h : i < k) : (uptoF f k).getD i (0, 0) = f i := by simp [uptoF, h]
theorem uptoF_ptsOf (f : Nat) (t : List Int) : uptoF (fun i => (((f + i : Nat) : Int), t.getD i 0)) t.length = ptsOf f t := rfl
theorem okK_of2 {ps : List (Int × Int)} {n : Nat} (h : Good ps n) : okK ps n = true := by
  have go : ∀ k, k ≤ n → okK ps k = true := fun k => by
    induction k with
    | zero => intro _; rfl
    | succ k ih =>
      intro hk
      rw [okK_step, ih (by omega), (numB_iff _).2 (h.x0 k (by omega)), (numB_iff _).2 (h.y0 k (by omega))]
      have : seenB ps k (px ps k) = false := by
        apply Bool.eq_false_iff.2
        intro ht
        obtain ⟨i, hi, he⟩ := (seenB_iff ps k _).1 ht
        exact h.ne i k (by omega) (by omega) (by omega) he
      rw [this]; rfl
  exact go n (Nat.le_refl _)
theorem okK_nums {ps : List (Int × Int)} {n : Nat} (h : okK ps n = true) : ∀ i, i < n → 0 ≤ py ps i ∧ py ps i ≤ 112 := fun i hi => (Good.of h).y0 i hi
/-- what ManyTake asks is what SharesJoin asks of these points -/
theorem join_ptsOf (a : List Int) (h20 : a.length ≤ 20) : joinB (ptsOf 1 a) = mtakB a := by
  unfold joinB mtakB shB ptsB
  rw [ptsOf_length]
  cases hn : numsB a
  · rw [Bool.and_false]
    have : okK (ptsOf 1 a) a.length = false := by
      apply Bool.eq_false_iff.2
      intro h
      have hN : Nums a := fun i => by
        by_cases hi : i < a.length
        · have := okK_nums h i hi
          rwa [py_ptsOf 1 a i hi] at this
        · rw [List.getD_eq_getElem?_getD, List.getElem?_eq_none (by omega)]; simp
      rw [B_of_nums hN] at hn; cases hn
    rw [this]; simp
  · have hg := okK_of2 (ptsOf_good 1 a (by omega) (nums_of_B hn))
    have hx : ∀ k, k ≤ a.length → xsK (ptsOf 1 a) 112 k = true := by
      intro k hk
      induction k with
      | zero => rfl
      | succ k ih => rw [xsK, ih (by omega), px_ptsOf 1 a k (by omega)]; simp; omega
    rw [hg, hx _ (Nat.le_refl _)]
    unfold inB
    rw [decide_eq_true h20, show decide ((a.length : Int) ≤ 20) = true from decide_eq_true (by omega)]
    by_cases h0 : 0 < a.length
    · rw [decide_eq_true h0, show decide ((1 : Int) ≤ (a.length : Int)) = true from decide_eq_true (by omega)]; rfl
    · rw [decide_eq_false h0, show decide ((1 : Int) ≤ (a.length : Int)) = false from decide_eq_false (by omega)]; rfl
theorem exp_good2 {s top : Int} {d : List (Int × Int)} (hs : 0 ≤ s ∧ s ≤ 112) (h : shB d top = true) : Good ((0, s) :: d) (1 + d.length) := by
  simp only [shB, Bool.and_eq_true] at h
  have hg := (shB_good rfl h.1).1
  have hx := fun i (hi : i < d.length) => xsK_at h.2 hi
  have p0 : px ((0, s) :: d) 0 = 0 := rfl
  have q0 : py ((0, s) :: d) 0 = s := rfl
  have p1 : ∀ i, px ((0, s) :: d) (i + 1) = px d i := fun i => by simp [px]
  have q1 : ∀ i, py ((0, s) :: d) (i + 1) = py d i := fun i => by simp [py]
  refine ⟨fun i hi => ?_, fun i hi => ?_, fun i j hi hj hij => ?_⟩
  · cases i with
    | zero => rw [p0]; omega
    | succ i => rw [p1]; exact hg.x0 i (by omega)
  · cases i with
    | zero => rw [q0]; exact hs
    | succ i => rw [q1]; exact hg.y0 i (by omega)
  · cases i with
    | zero =>
      cases j with
      | zero => exact absurd rfl hij
      | succ j => rw [p0, p1]; have := hx j (by omega); omega
    | succ i =>
      cases j with
      | zero => rw [p0, p1]; have := hx i (by omega); omega
      | succ j => rw [p1, p1]; exact hg.ne i j (by omega) (by omega) (by omega)
end Go.Proofs.Ytbabkaofhhaneaa

/- Chapter 12: what the promises say of sets and sums. No word of a program. -/
namespace Go.Proofs.Ytbabkaofhhaneaa
open Go.RowKit
set_option maxRecDepth 100000

theorem getD_map_not (d : List Bool) (k : Nat) (h : k < d.length) : (d.map (!·)).getD k false = !d.getD k false := by simp [h]
theorem getD_rep (n k : Nat) (h : k < n) : (List.replicate n true).getD k false = true := by simp [h]
theorem getD_setB (d : List Bool) (i k : Nat) (v : Bool) (h : i < d.length) : (d.set i v).getD k false = if i = k then v else d.getD k false := by
  by_cases hk : i = k
  · subst hk; simp [h]
  · simp [List.getD_eq_getElem?_getD, hk]
theorem sum_comp (t : List Int) (d : List Bool) (n k : Nat) (hk : k ≤ n) (hd : d.length = n) : (sumK t d k + sumK t (d.map (!·)) k) % 113 = sumK t (List.replicate n true) k := by
  induction k with
  | zero => rfl
  | succ k ih =>
    have ih := ih (by omega)
    rw [sumK, sumK, sumK, getD_map_not d k (by omega), getD_rep n k (by omega)]
    cases d.getD k false
    · simp only [Bool.not_false, if_true, Bool.false_eq_true, if_false]
      omega
    · simp only [Bool.not_true, if_true, Bool.false_eq_true, if_false]
      omega
theorem sum_set (t : List Int) (d : List Bool) (i k : Nat) (hi : i < d.length) (ht : 0 ≤ t.getD i 0 ∧ t.getD i 0 ≤ 112) :
    (k ≤ i → sumK t (d.set i (!d.getD i false)) k = sumK t d k) ∧
    (i < k → (if d.getD i false = true then (sumK t d k - sumK t (d.set i (!d.getD i false)) k) % 113 = t.getD i 0 else (sumK t (d.set i (!d.getD i false)) k - sumK t d k) % 113 = t.getD i 0)) := by
  induction k with
  | zero => exact ⟨fun _ => rfl, fun h => by omega⟩
  | succ k ih =>
    obtain ⟨h1, h2⟩ := ih
    constructor
    · intro hk
      rw [sumK, sumK, getD_setB d i k _ hi, if_neg (show ¬ i = k by omega), h1 (by omega)]
    · intro hk
      rw [sumK, sumK, getD_setB d i k _ hi]
      by_cases he : i = k
      · subst he
        rw [if_pos rfl, h1 (Nat.le_refl _)]
        have b := sumK_bd t d i
        cases d.getD i false
        · simp only [Bool.not_false, if_true, Bool.false_eq_true, if_false]; omega
        · simp only [Bool.not_true, if_true, Bool.false_eq_true, if_false]; omega
      · rw [if_neg he]
        have h2 := h2 (by omega)
        cases hz : d.getD i false
        · rw [hz] at h2
          simp only [Bool.not_false, Bool.false_eq_true, if_false] at h2 ⊢
          cases d.getD k false
          · simpa using h2
          · simp only [if_true]; omega
        · rw [hz] at h2
          simp only [Bool.not_true, if_true] at h2 ⊢
          cases d.getD k false
          · simpa using h2
          · simp only [if_true]; omega
/-- a set turned twice at an index -/
theorem set_twice (d : List Bool) (i : Nat) : (d.set i (!d.getD i false)).set i (!(d.set i (!d.getD i false)).getD i false) = d := by
  apply List.ext_getElem?
  intro k
  by_cases hk : i = k
  · subst hk
    by_cases h : i < d.length
    · simp [h]
    · rw [List.getElem?_eq_none (show d.length ≤ i by omega), List.getElem?_eq_none (by rw [List.length_set, List.length_set]; omega)]
  · simp [List.getElem?_set, hk]
theorem ask_back {s : List Bool} {i : Int} (h : pairB s i = true) : pairB (R_PairAsk_1 s i) i = true ∧ R_PairAsk_0 (R_PairAsk_1 s i) i = R_PairAsk_1 s i ∧ R_PairAsk_1 (R_PairAsk_1 s i) i = s := by
  have h1 : pairB (R_PairAsk_1 s i) i = true := by
    unfold R_PairAsk_1; rw [if_pos h]; unfold pairB at h ⊢; rw [List.length_set]; exact h
  refine ⟨h1, by unfold R_PairAsk_0; rw [if_pos h1], ?_⟩
  have e : R_PairAsk_1 (R_PairAsk_1 s i) i = (R_PairAsk_1 s i).set i.toNat (!(R_PairAsk_1 s i).getD i.toNat false) := by
    show (if pairB (R_PairAsk_1 s i) i = true then _ else _) = _
    rw [if_pos h1]
  rw [e]
  have e2 : R_PairAsk_1 s i = s.set i.toNat (!s.getD i.toNat false) := by unfold R_PairAsk_1; rw [if_pos h]
  rw [e2]
  exact set_twice s i.toNat
theorem take_swap {s : List Bool} {a b i : Int} (h : ptakeB s a b i = true) : ptakeB s b a i = true ∧ (ptakeV s a b i + ptakeV s b a i) % 113 = 0 ∧ (0 ≤ ptakeV s a b i ∧ ptakeV s a b i ≤ 112) ∧ (0 ≤ ptakeV s b a i ∧ ptakeV s b a i ≤ 112) := by
  have h2 : ptakeB s b a i = true := by unfold ptakeB at h ⊢; rw [Bool.and_comm (numB b)]; exact h
  refine ⟨h2, ?_⟩
  unfold ptakeV
  rw [if_pos h, if_pos h2]
  cases s.getD i.toNat false <;> simp only [if_true, Bool.false_eq_true, if_false] <;> omega
theorem answ_comp {t : List Int} {d : List Bool} (h : answB t d = true) : answB t (d.map (!·)) = true ∧ answB t (List.replicate d.length true) = true ∧ (answV t d + answV t (d.map (!·))) % 113 = answV t (List.replicate d.length true) ∧ (0 ≤ answV t d ∧ answV t d ≤ 112) ∧ (0 ≤ answV t (d.map (!·)) ∧ answV t (d.map (!·)) ≤ 112) := by
  have hl : d.length = t.length := by unfold answB at h; rw [Bool.and_eq_true, decide_eq_true_eq] at h; exact h.2
  have h1 : answB t (d.map (!·)) = true := by unfold answB at h ⊢; rw [List.length_map]; exact h
  have h2 : answB t (List.replicate d.length true) = true := by unfold answB at h ⊢; rw [List.length_replicate]; exact h
  refine ⟨h1, h2, ?_⟩
  unfold answV
  rw [if_pos h, if_pos h1, if_pos h2]
  exact ⟨by rw [hl]; exact sum_comp t d t.length t.length (Nat.le_refl _) hl, sumK_bd _ _ _, sumK_bd _ _ _⟩
/-- both sums tell the entry -/
theorem pair_found {t : List Int} {d : List Bool} {i : Nat} (h : answB t d = true) (hi : i < t.length) :
    pairB d i = true ∧ R_PairAsk_0 d i = d ∧ answB t (R_PairAsk_1 d i) = true ∧ ptakeB d (answV t d) (answV t (R_PairAsk_1 d i)) i = true ∧ ptakeV d (answV t d) (answV t (R_PairAsk_1 d i)) i = t.getD i 0 := by
  have hh := h
  unfold answB tabB at hh
  simp only [Bool.and_eq_true, decide_eq_true_eq, inB_iff] at hh
  obtain ⟨⟨⟨n1, n16⟩, hN⟩, hl⟩ := hh
  have hp : pairB d i = true := by unfold pairB; rw [hl, inB_t ⟨n1, n16⟩, inB_t ⟨by omega, by omega⟩]; rfl
  have e1 : R_PairAsk_1 d i = d.set i (!d.getD i false) := by unfold R_PairAsk_1; rw [if_pos hp]; rfl
  have ha : answB t (R_PairAsk_1 d i) = true := by rw [e1]; unfold answB at h ⊢; rw [List.length_set]; exact h
  have v1 : answV t d = sumK t d t.length := by unfold answV; rw [if_pos h]
  have v2 : answV t (R_PairAsk_1 d i) = sumK t (d.set i (!d.getD i false)) t.length := by unfold answV; rw [if_pos ha, e1]
  have b1 := sumK_bd t d t.length
  have b2 := sumK_bd t (d.set i (!d.getD i false)) t.length
  have hb : ptakeB d (answV t d) (answV t (R_PairAsk_1 d i)) i = true := by
    unfold ptakeB; rw [hp, v1, v2, (numB_iff _).2 b1, (numB_iff _).2 b2]; rfl
  refine ⟨hp, by unfold R_PairAsk_0; rw [if_pos hp], ha, hb, ?_⟩
  have := (sum_set t d i t.length (by omega) (nums_of_B hN i)).2 hi
  unfold ptakeV
  rw [if_pos hb, v1, v2, Int.toNat_natCast]
  cases hz : d.getD i false
  · rw [hz] at this; simpa using this
  · rw [hz] at this; simpa using this
end Go.Proofs.Ytbabkaofhhaneaa

/- The exported functions of chapter 1: what they return at good arguments and at others. Made by gen1.py. -/
namespace Go.Proofs.Ytbabkaofhhaneaa
open Go.RowKit

theorem mul_le (a b : Int) (ha : 0 ≤ a ∧ a ≤ 1000) (hb : 0 ≤ b ∧ b ≤ 1000) : 0 ≤ a * b ∧ a * b ≤ 1000000 :=
  ⟨Int.mul_nonneg ha.1 hb.1, by
    have := Int.mul_le_mul (a := a) (b := b) (c := 1000) (d := 1000) ha.2 hb.2 hb.1 (by omega)
    omega⟩
theorem ret_b {a b : Bool} (h : a = b) : Ending.returned (.bool a) = .returned (.bool b) := by rw [h]
theorem ret_ib {k : IntKind} {a b : Int} {c : Bool} (h : a = b) : Ending.returned (.tuple #[.int k a, .bool c]) = .returned (.tuple #[.int k b, .bool c]) := by rw [h]
theorem sub_same (a b : Int) : (a - b + 113) % 113 = (a - b) % 113 := by omega
theorem sub_same' (a b : Int) : (a + 113 - b) % 113 = (a - b) % 113 := by omega

set_option maxHeartbeats 400000 in
theorem i_NumSub (a b : Int) (w : World) (ha : numB a = true) (hb : numB b = true) :
    Calls Try.prog 57 #[.int .i64 a, .int .i64 b] w fun x w' => x = .returned (.tuple #[.int .i64 ((a - b) % 113), .bool true]) ∧ w = w' := by
  have ra := (numB_iff a).1 ha
  have rb := (numB_iff b).1 hb
  obtain ⟨ra1, ra2⟩ := ra
  obtain ⟨rb1, rb2⟩ := rb
  go_enter Try.func57, Try.ntmps57
  go_wp2_with (first | (go_at_call 63; refine (i_NumOk _ _).mono ?_; rintro e w' ⟨rfl, rfl⟩) | go_in)
  go_ret2
  exact ⟨by first | rfl | exact ret_ib (sub_same a b) | exact ret_ib (sub_same' a b), rfl⟩
set_option maxHeartbeats 400000 in
theorem i_NumSub_no (a b : Int) (w : World) (h : (numB a && numB b) = false) :
    Calls Try.prog 57 #[.int .i64 a, .int .i64 b] w fun x w' => x = .returned (.tuple #[.int .i64 0, .bool false]) ∧ w = w' := by
  cases ha : numB a
  · go_enter Try.func57, Try.ntmps57
    go_wp2_with (first | (go_at_call 63; refine (i_NumOk _ _).mono ?_; rintro e w' ⟨rfl, rfl⟩) | go_in)
    go_ret2
    exact ⟨rfl, rfl⟩
  · have hb : numB b = false := by rw [ha] at h; simpa using h
    clear h
    go_enter Try.func57, Try.ntmps57
    go_wp2_with (first | (go_at_call 63; refine (i_NumOk _ _).mono ?_; rintro e w' ⟨rfl, rfl⟩) | go_in)
    go_ret2
    exact ⟨rfl, rfl⟩

end Go.Proofs.Ytbabkaofhhaneaa

/- Lists of structs of 3 ints (Gate): as cells; what reads and what is owned; the laws' helpers over them. Made by tools/genflat.py. -/
namespace Go.Proofs.Ytbabkaofhhaneaa
open Go.RowKit
set_option maxRecDepth 100000

def cGate (ps : List (Int × Int × Int)) : List Value := ps.flatMap fun p => [.int .i64 (p.1), .int .i64 (p.2.1), .int .i64 (p.2.2)]
theorem cGate_length (ps : List (Int × Int × Int)) : (cGate ps).length = ps.length * 3 := by
  induction ps with
  | nil => rfl
  | cons p t ih => simp only [cGate, List.flatMap_cons, List.length_append, List.length_cons, List.length_nil] at *; omega
theorem cGate_cons (p : Int × Int × Int) (t : List (Int × Int × Int)) : cGate (p :: t) = .int .i64 (p.1) :: .int .i64 (p.2.1) :: .int .i64 (p.2.2) :: cGate t := rfl
theorem cGate_get0 (ps : List (Int × Int × Int)) (k : Nat) (h : k < ps.length) : (cGate ps)[k * 3]? = some (.int .i64 ((ps.getD k (0, 0, 0)).1)) := by
  induction ps generalizing k with
  | nil => simp at h
  | cons p t ih =>
    cases k with
    | zero => simp [cGate_cons]
    | succ k => rw [cGate_cons, show (k + 1) * 3 = k * 3 + 1 + 1 + 1 by omega, List.getElem?_cons_succ, List.getElem?_cons_succ, List.getElem?_cons_succ, ih k (by simpa using h)]; rfl
theorem cGate_get1 (ps : List (Int × Int × Int)) (k : Nat) (h : k < ps.length) : (cGate ps)[k * 3 + 1]? = some (.int .i64 ((ps.getD k (0, 0, 0)).2.1)) := by
  induction ps generalizing k with
  | nil => simp at h
  | cons p t ih =>
    cases k with
    | zero => simp [cGate_cons]
    | succ k => rw [cGate_cons, show (k + 1) * 3 + 1 = k * 3 + 1 + 1 + 1 + 1 by omega, List.getElem?_cons_succ, List.getElem?_cons_succ, List.getElem?_cons_succ, ih k (by simpa using h)]; rfl
theorem cGate_get2 (ps : List (Int × Int × Int)) (k : Nat) (h : k < ps.length) : (cGate ps)[k * 3 + 2]? = some (.int .i64 ((ps.getD k (0, 0, 0)).2.2)) := by
  induction ps generalizing k with
  | nil => simp at h
  | cons p t ih =>
    cases k with
    | zero => simp [cGate_cons]
    | succ k => rw [cGate_cons, show (k + 1) * 3 + 2 = k * 3 + 2 + 1 + 1 + 1 by omega, List.getElem?_cons_succ, List.getElem?_cons_succ, List.getElem?_cons_succ, ih k (by simpa using h)]; rfl
theorem cGate_set (ps : List (Int × Int × Int)) (k : Nat) (x y z : Int) : (((cGate ps).set (k * 3) (.int .i64 x)).set (k * 3 + 1) (.int .i64 y)).set (k * 3 + 2) (.int .i64 z) = cGate (ps.set k (x, y, z)) := by
  induction ps generalizing k with
  | nil => rfl
  | cons p t ih =>
    cases k with
    | zero => rfl
    | succ k =>
      have e0 : (k + 1) * 3 = k * 3 + 1 + 1 + 1 := by omega
      have e1 : (k + 1) * 3 + 1 = k * 3 + 1 + 1 + 1 + 1 := by omega
      have e2 : (k + 1) * 3 + 2 = k * 3 + 2 + 1 + 1 + 1 := by omega
      rw [cGate_cons, e2, e1, e0, List.set_cons_succ, List.set_cons_succ, List.set_cons_succ, List.set_cons_succ, List.set_cons_succ, List.set_cons_succ, List.set_cons_succ, List.set_cons_succ, List.set_cons_succ, ih k, List.set_cons_succ, cGate_cons]

theorem Rd.Gatelen {w : World} {hi n : Nat} {A : Option Addr} {ps : List (Int × Int × Int)} (h : Rd w hi 3 A n (cGate ps)) : ps.length = n := by have := h.1; rw [cGate_length] at this; omega
theorem Ow.Gatelen {w : World} {lo hi e n c : Nat} {A : Option Addr} {ps : List (Int × Int × Int)} (h : Ow w lo hi e 3 A n c (cGate ps)) : ps.length = n := by have := h.1; rw [cGate_length] at this; omega
theorem Rd.GateAt {w : World} {hi n k : Nat} {A : Option Addr} {ps : List (Int × Int × Int)} (h : Rd w hi 3 A n (cGate ps)) (hk : k < n) :
    ∃ (a : Addr) (x y z : Int), A = some a ∧ a.block < hi ∧ w.cell? (a.add (k * 3)) = some (.int .i64 x) ∧ w.cell? ⟨(a.add (k * 3)).block, (a.add (k * 3)).off + 1, none⟩ = some (.int .i64 y) ∧ w.cell? ⟨(a.add (k * 3)).block, (a.add (k * 3)).off + 2, none⟩ = some (.int .i64 z) ∧ Hid (ps.getD k (0, 0, 0) = (x, y, z)) := by
  obtain ⟨a, e, hb, hc⟩ := h.2 (by omega)
  have hl := h.Gatelen
  exact ⟨a, _, _, _, e, hb, hc _ _ (cGate_get0 ps k (by omega)), by rw [add_next _ _ _ (by omega)]; exact hc _ _ (cGate_get1 ps k (by omega)), by rw [add_next _ _ _ (by omega)]; exact hc _ _ (cGate_get2 ps k (by omega)), Lib.hid rfl⟩

theorem made_Gate (n : Nat) : (madeCells #[.int .i64 0, .int .i64 0, .int .i64 0] (n * 3)).toList = cGate (List.replicate n (0, 0, 0)) := by
  have h0 : ∀ (k : Nat), (madeCells #[Value.int .i64 0, .int .i64 0, .int .i64 0] k).toList = List.replicate k (Value.int .i64 0) := by
    intro k
    apply List.ext_getElem?
    intro j
    by_cases hj : j < k
    · have h2 : j % 3 = 0 ∨ j % 3 = 1 ∨ j % 3 = 2 := by omega
      rcases h2 with h2 | h2 | h2 <;> simp [madeCells, hj, h2]
    · simp [madeCells, hj]
  rw [h0]
  induction n with
  | zero => rfl
  | succ n ih => rw [show (n + 1) * 3 = n * 3 + 1 + 1 + 1 by omega, List.replicate_succ, List.replicate_succ, List.replicate_succ, ih, List.replicate_succ, cGate_cons]
theorem copy_Gate {ps : List (Int × Int × Int)} {n k : Nat} {x y z : Int} (hz : ps.length = n) (hk : k < n) (hp : ps.getD k (0, 0, 0) = (x, y, z)) : (ps.take k ++ List.replicate (n - k) (0, 0, 0)).set k (x, y, z) = ps.take (k + 1) ++ List.replicate (n - (k + 1)) (0, 0, 0) := by
  have hl : (ps.take k).length = k := by simp; omega
  rw [List.set_append_right _ _ (by omega), hl, Nat.sub_self, show n - k = (n - (k + 1)) + 1 by omega, List.replicate_succ]
  have hk' : k < ps.length := by omega
  rw [List.set_cons_zero, List.take_succ_eq_append_getElem hk', List.append_assoc, List.singleton_append]
  have : ps[k] = (x, y, z) := by rw [← hp]; simp [hk']
  rw [this]
/-- one stored -/
theorem Ow.setGate {w : World} {lo hi e n c g k : Nat} {ps : List (Int × Int × Int)} (h : Ow w lo hi e 3 (some ⟨g, 0, none⟩) n c (cGate ps)) (x y z : Int) :
    Ow (((w.setCell ⟨g, k * 3, none⟩ (.int .i64 x)).setCell ⟨g, k * 3 + 1, none⟩ (.int .i64 y)).setCell ⟨g, k * 3 + 2, none⟩ (.int .i64 z)) lo hi e 3 (some ⟨g, 0, none⟩) n c (cGate (ps.set k (x, y, z))) := by
  have := (((h.set (k * 3) (.int .i64 x)).set (k * 3 + 1) (.int .i64 y)).set (k * 3 + 2) (.int .i64 z))
  rw [cGate_set] at this; exact this

/-- marked one behind the other -/
def iotaGate (K : Int) (n : Nat) : List (Int × Int × Int) := (List.range n).map fun i : Nat => (K + 3 * (i : Int), K + 3 * (i : Int) + 1, K + 3 * (i : Int) + 1 + 1)
theorem iotaGate_length (K : Int) (n : Nat) : (iotaGate K n).length = n := by simp [iotaGate]
theorem iotaGate_succ (K : Int) (n : Nat) : iotaGate K (n + 1) = iotaGate K n ++ [(K + 3 * (n : Int), K + 3 * (n : Int) + 1, K + 3 * (n : Int) + 1 + 1)] := by simp [iotaGate, List.range_succ]
theorem iotaGate_get (K : Int) (n k : Nat) (h : k < n) : (iotaGate K n).getD k (0, 0, 0) = (K + 3 * (k : Int), K + 3 * (k : Int) + 1, K + 3 * (k : Int) + 1 + 1) := by simp [iotaGate, h]
theorem mark_Gate {ps : List (Int × Int × Int)} {n k : Nat} (K : Int) (hz : ps.length = n) (hk : k < n) : (iotaGate K k ++ ps.drop k).set k (K + 3 * (k : Int), K + 3 * (k : Int) + 1, K + 3 * (k : Int) + 1 + 1) = iotaGate K (k + 1) ++ ps.drop (k + 1) := by
  have hl := iotaGate_length K k
  have hk' : k < ps.length := by omega
  rw [List.set_append_right _ _ (by omega), hl, Nat.sub_self, iotaGate_succ, List.append_assoc, List.drop_eq_getElem_cons hk', List.set_cons_zero, List.singleton_append]

/-! as whole values -/
def RdGateS (w : World) (hi : Nat) (v : Value) (d : List (Int × Int × Int)) : Prop := ∃ A n c, v = .slice A n c ∧ n ≤ 9223372036854775807 ∧ Rd w hi 3 A n (cGate d)
def szGateS (d : List (Int × Int × Int)) : Nat := d.length
def mkGateS (K : Int) (d : List (Int × Int × Int)) : List (Int × Int × Int) := iotaGate K d.length
section
variable {w w' : World} {lo hi lo' hi' B mid : Nat} {v : Value} {d : List (Int × Int × Int)}
theorem RdGateS.below (h : RdGateS w hi v d) (hb : Below hi w w') : RdGateS w' hi v d := by
  obtain ⟨A, n, c, rfl, hn, r⟩ := h; exact ⟨A, n, c, rfl, hn, r.below hb⟩
theorem RdGateS.more (h : RdGateS w hi v d) (hh : hi ≤ hi') : RdGateS w hi' v d := by
  obtain ⟨A, n, c, rfl, hn, r⟩ := h; exact ⟨A, n, c, rfl, hn, r.more hh⟩
end
theorem RdGateS.nil_ (w : World) (hi : Nat) : RdGateS w hi (.slice none 0 0) [] := ⟨none, 0, 0, rfl, by omega, by simp [cGate], fun h => by omega⟩

end Go.Proofs.Ytbabkaofhhaneaa

/- A block that the call itself made and that holds known cells: a boxed struct, a variable. -/
namespace Go.Proofs.Ytbabkaofhhaneaa
open Go.RowKit
set_option maxRecDepth 100000

/-- block b holds the cells cs of element type e -/
def Bx (w : World) (b : Nat) (cs : Array Value) (e : TypeId) : Prop := w.heap[b]? = some (.cells cs e (0, 0))
section
variable {w w' : World} {b e : Nat} {cs : Array Value}
theorem Bx.new (w : World) (cs : Array Value) (e : TypeId) : Bx (w.alloc (.cells cs e)) w.heap.size cs e := heap_alloc_new w _
theorem Bx.lt (h : Bx w b cs e) : b < w.heap.size := (Array.getElem?_eq_some_iff.1 h).1
theorem Bx.alloc (h : Bx w b cs e) (o : Obj) : Bx (w.alloc o) b cs e := (Below.heap_alloc w o b h.lt).trans h
theorem Bx.below {B : Nat} (h : Bx w b cs e) (hb : Below B w w') (hl : b < B) : Bx w' b cs e := (hb.block b hl).trans h
theorem Bx.kept {lo hi : Nat} (h : Bx w b cs e) (hk : Kept lo hi w w') (hl : b < lo ∨ hi ≤ b) : Bx w' b cs e := (hk.block b h.lt (by omega)).trans h
theorem Bx.cell (h : Bx w b cs e) (j : Nat) : w.cell? ⟨b, j, none⟩ = cs[j]? := cell_of_row w b j cs e (0, 0) h
theorem Bx.free (h : Bx w b cs e) (j : Nat) : w.frozen? ⟨b, j, none⟩ = false := frozen_of_row w b j cs e h
theorem Bx.set (h : Bx w b cs e) (j : Nat) (u : Value) : Bx (w.setCell ⟨b, j, none⟩ u) b (cs.setIfInBounds j u) e := heap_setCell_same w b j cs e u h
theorem Bx.other (h : Bx w b cs e) (p : Addr) (u : Value) (hp : p.block ≠ b) : Bx (w.setCell p u) b cs e := (Below.heap_setCell w p u b (fun h' => hp h'.symm)).trans h
theorem Bx.still (h : Bx w b cs e) (hs : Still w w') : Bx w' b cs e := by obtain ⟨d, rfl⟩ := hs; exact h
end

end Go.Proofs.Ytbabkaofhhaneaa

/- Chapter 2: PolyAt. -/
namespace Go.Proofs.Ytbabkaofhhaneaa
open Go.RowKit

def polyAtB (zs : List Int) (x : Int) : Bool := polyB zs && numB x
def polyAtV (zs : List Int) (x : Int) : Int := if polyAtB zs x = true then atI zs x else 0
theorem ret_ib2 {k : IntKind} {a b : Int} {c d : Bool} (h : a = b) (h2 : c = d) : Ending.returned (.tuple #[.int k a, .bool c]) = .returned (.tuple #[.int k b, .bool d]) := by rw [h, h2]
theorem polyAt_no {zs : List Int} {x : Int} (h : polyAtB zs x = false) : (0 : Int) = polyAtV zs x := by simp [polyAtV, h]
theorem polyAt_yes {zs : List Int} {x : Int} (h : polyAtB zs x = true) : atI zs x = polyAtV zs x := by simp [polyAtV, h]

end Go.Proofs.Ytbabkaofhhaneaa

/- Chapter 12: TableOk, PairTake, PairAnswer, PairAsk of both sides. Made by tools/gen12/basics.py. -/
namespace Go.Proofs.Ytbabkaofhhaneaa
open Go.RowKit
set_option maxRecDepth 100000

set_option maxHeartbeats 1000000 in
theorem s_TableOk (A : Option Addr) (n c : Nat) (xs : List Int) (w : World) (h : Rd w w.heap.size 1 A n (cI xs)) (hn : n ≤ 1048576) :
    Calls Try.prog 16 #[.slice A n c] w fun e w' => e = .returned (.bool (tabB xs)) ∧ w = w' := by
  have HL := Lib.hid h.len
  have HR := Lib.hid h
  clear h
  go_enter Try.func16, Try.ntmps16
  go_wp2_with fail
  refine (s_l6In _ _ _ _).mono ?_
  rintro e w' ⟨rfl, rfl⟩
  cases e1 : inB (n : Int) 1 16
  · have HF : Hid (tabB xs = false) := Lib.hid (by simp [tabB, HL.out, e1])
    go_wp2
    go_ret
    exact ⟨ret_bool HF.out.symm, rfl⟩
  have HF : Hid (tabB xs = numsB xs) := Lib.hid (by simp [tabB, HL.out, e1])
  clear e1
  go_wp2_with fail
  refine (s_l1In _ _ _ _ _ HR.out hn).mono ?_
  rintro e w' ⟨rfl, rfl⟩
  go_wp2
  go_ret
  exact ⟨ret_bool HF.out.symm, rfl⟩
set_option maxHeartbeats 1000000 in
theorem i_TableOk (A : Option Addr) (n c : Nat) (xs : List Int) (w : World) (h : Rd w w.heap.size 1 A n (cI xs)) (hn : n ≤ 1048576) :
    Calls Try.prog 18 #[.slice A n c] w fun e w' => e = .returned (.bool (tabB xs)) ∧ w = w' := by
  have HL := Lib.hid h.len
  have HR := Lib.hid h
  clear h
  by_cases h1 : 1 ≤ n
  · by_cases h2 : n ≤ 16
    · have HF : Hid (tabB xs = numsB xs) := Lib.hid (by rw [tabB, HL.out, inB_t ⟨by omega, by omega⟩, Bool.true_and])
      go_enter Try.func18, Try.ntmps18
      go_wp2_with fail
      refine (i_numbersOk _ _ _ _ _ HR.out hn).mono ?_
      rintro e w' ⟨rfl, rfl⟩
      go_wp2
      go_ret
      exact ⟨ret_bool HF.out.symm, rfl⟩
    · have HF : Hid (tabB xs = false) := Lib.hid (by rw [tabB, HL.out, inB_f (by omega), Bool.false_and])
      go_enter Try.func18, Try.ntmps18
      go_wp2
      go_ret
      exact ⟨ret_bool HF.out.symm, rfl⟩
  · have HF : Hid (tabB xs = false) := Lib.hid (by rw [tabB, HL.out, inB_f (by omega), Bool.false_and])
    go_enter Try.func18, Try.ntmps18
    go_wp2
    go_ret
    exact ⟨ret_bool HF.out.symm, rfl⟩
theorem X_s_TableOk (v : Value) (d : List Int) (w : World) (h : RdIntS w w.heap.size v d) (hs : szIntS d ≤ 1048576) :
    Calls Try.prog 16 #[v] w fun e w' => e = .returned (.bool (tabB d)) ∧ Below w.heap.size w w' := by
  obtain ⟨A, n, c, rfl, _, r⟩ := h
  refine (s_TableOk A n c d w r (by have := r.len; unfold szIntS at hs; omega)).mono ?_
  rintro e w' ⟨rfl, rfl⟩
  exact ⟨rfl, Below.refl _ _⟩
theorem X_i_TableOk (v : Value) (d : List Int) (w : World) (h : RdIntS w w.heap.size v d) (hs : szIntS d ≤ 1048576) :
    Calls Try.prog 18 #[v] w fun e w' => e = .returned (.bool (tabB d)) ∧ Below w.heap.size w w' := by
  obtain ⟨A, n, c, rfl, _, r⟩ := h
  refine (i_TableOk A n c d w r (by have := r.len; unfold szIntS at hs; omega)).mono ?_
  rintro e w' ⟨rfl, rfl⟩
  exact ⟨rfl, Below.refl _ _⟩

set_option maxHeartbeats 1000000 in
theorem i_inSet (A : Option Addr) (n c : Nat) (i : Int) (ss : List Bool) (w : World) (hl : ss.length = n) :
    Calls Try.prog 52 #[.slice A n c, .int .i64 i] w fun e w' => e = .returned (.bool (pairB ss i)) ∧ w = w' := by
  have HL := Lib.hid hl
  clear hl
  by_cases h2 : n ≤ 16
  · have HF : Hid (pairB ss i = inB i 0 ((n : Int) - 1)) := Lib.hid (by
      unfold pairB; rw [HL.out]
      cases e : inB i 0 ((n : Int) - 1)
      · simp
      · have := inB_iff.1 e
        rw [inB_t ⟨by omega, by omega⟩]; rfl)
    go_enter Try.func52, Try.ntmps52
    go_wp2_with fail
    refine (i_indexOk _ _ _).mono ?_
    rintro e w' ⟨rfl, rfl⟩
    go_wp2
    go_ret
    exact ⟨ret_bool HF.out.symm, rfl⟩
  · have HF : Hid (pairB ss i = false) := Lib.hid (by unfold pairB; rw [HL.out, inB_f (by omega)]; rfl)
    go_enter Try.func52, Try.ntmps52
    go_wp2
    go_ret
    exact ⟨ret_bool HF.out.symm, rfl⟩

set_option maxHeartbeats 4000000 in
theorem s_PairTake (A : Option Addr) (n c : Nat) (ss : List Bool) (a b i : Int) (w : World) (h : Rd w w.heap.size 1 A n (cB ss)) (hn : n ≤ 1048576) :
    Calls Try.prog 28 #[.slice A n c, .int .i64 a, .int .i64 b, .int .i64 i] w fun e w' => e = .returned (.tuple #[.int .i64 (ptakeV ss a b i), .bool (ptakeB ss a b i)]) ∧ Below w.heap.size w w' := by
  have HL := Lib.hid h.blen
  have HR := Lib.hid h
  clear h
  go_enter Try.func28, Try.ntmps28
  go_wp2_with fail
  refine (s_l6In _ _ _ _).mono ?_
  rintro e w' ⟨rfl, rfl⟩
  cases e1 : inB (n : Int) 1 16
  · have HF : Hid (ptakeV ss a b i = 0 ∧ ptakeB ss a b i = false) := Lib.hid (by simp [ptakeV, ptakeB, pairB, HL.out, e1])
    go_wp2
    go_ret2
    exact ⟨ret_ib2 HF.out.1.symm HF.out.2.symm, Below.refl _ _⟩
  obtain ⟨n1, n16⟩ := inB_iff.1 e1
  have im : IntKind.i64.wrap ((n : Int) - 1) = (n : Int) - 1 := IntWalk.i64_in _ (by omega)
  go_wp2_with fail
  refine (s_l6In _ _ _ _).mono ?_
  rintro e w' ⟨rfl, rfl⟩
  cases e2 : inB i 0 ((n : Int) - 1)
  · have HF : Hid (ptakeV ss a b i = 0 ∧ ptakeB ss a b i = false) := Lib.hid (by simp [ptakeV, ptakeB, pairB, HL.out, e2])
    go_wp2
    go_ret2
    exact ⟨ret_ib2 HF.out.1.symm HF.out.2.symm, Below.refl _ _⟩
  have HP : Hid (pairB ss i = true) := Lib.hid (by simp [pairB, HL.out, e1, e2])
  obtain ⟨i0, i1'⟩ := inB_iff.1 e2
  go_wp2_with fail
  refine (s_NumOk _ _).mono ?_
  rintro e w' ⟨rfl, rfl⟩
  cases e3 : numB a
  · have HF : Hid (ptakeV ss a b i = 0 ∧ ptakeB ss a b i = false) := Lib.hid (by simp [ptakeV, ptakeB, e3])
    go_wp2
    go_ret2
    exact ⟨ret_ib2 HF.out.1.symm HF.out.2.symm, Below.refl _ _⟩
  go_wp2_with fail
  refine (s_NumOk _ _).mono ?_
  rintro e w' ⟨rfl, rfl⟩
  cases e4 : numB b
  · have HF : Hid (ptakeV ss a b i = 0 ∧ ptakeB ss a b i = false) := Lib.hid (by simp [ptakeV, ptakeB, e4])
    go_wp2
    go_ret2
    exact ⟨ret_ib2 HF.out.1.symm HF.out.2.symm, Below.refl _ _⟩
  have HB : Hid (ptakeB ss a b i = true) := Lib.hid (by simp [ptakeB, HP.out, e3, e4])
  obtain ⟨a0, a1⟩ := (numB_iff a).1 e3
  obtain ⟨b0, b1⟩ := (numB_iff b).1 e4
  clear e1 e2 e3 e4
  obtain ⟨k, hk⟩ : ∃ k : Nat, i = (k : Int) := ⟨i.toNat, by omega⟩
  subst hk
  have hkn : k < n := by omega
  obtain ⟨ad, z, rfl, ab, ac, HZ⟩ := HR.out.boolAt hkn
  have i1 : (k : Int) < (n : Int) := by omega
  have HV : Hid (ptakeV ss a b k = if z = true then (a - b) % 113 else (b - a) % 113) := Lib.hid (by unfold ptakeV; rw [if_pos HB.out, HZ.out, Int.toNat_natCast])
  cases z
  · have HV2 : Hid (ptakeV ss a b k = (b - a) % 113) := Lib.hid (by rw [HV.out]; simp)
    clear HV
    go_wp2_with fail
    refine (s_l1Sub _ _ _ b0 b1 a0 a1).mono ?_
    rintro e w' ⟨rfl, rfl⟩
    go_wp2
    go_ret2
    exact ⟨ret_ib2 HV2.out.symm HB.out.symm, Below.refl _ _⟩
  · have HV2 : Hid (ptakeV ss a b k = (a - b) % 113) := Lib.hid (by rw [HV.out]; simp)
    clear HV
    go_wp2_with fail
    refine (s_l1Sub _ _ _ a0 a1 b0 b1).mono ?_
    rintro e w' ⟨rfl, rfl⟩
    go_wp2
    go_ret2
    exact ⟨ret_ib2 HV2.out.symm HB.out.symm, Below.refl _ _⟩
set_option maxHeartbeats 4000000 in
theorem i_PairTake (A : Option Addr) (n c : Nat) (ss : List Bool) (a b i : Int) (w : World) (h : Rd w w.heap.size 1 A n (cB ss)) (_hn : n ≤ 1048576) :
    Calls Try.prog 29 #[.slice A n c, .int .i64 a, .int .i64 b, .int .i64 i] w fun e w' => e = .returned (.tuple #[.int .i64 (ptakeV ss a b i), .bool (ptakeB ss a b i)]) ∧ Below w.heap.size w w' := by
  have HL := Lib.hid h.blen
  have HR := Lib.hid h
  clear h
  go_enter Try.func29, Try.ntmps29
  go_wp2_with fail
  refine (i_inSet A n c i ss _ HL.out).mono ?_
  rintro e w' ⟨rfl, rfl⟩
  cases e1 : pairB ss i
  · have HF : Hid (ptakeV ss a b i = 0 ∧ ptakeB ss a b i = false) := Lib.hid (by simp [ptakeV, ptakeB, e1])
    go_wp2
    go_ret2
    exact ⟨ret_ib2 HF.out.1.symm HF.out.2.symm, Below.refl _ _⟩
  have hp := e1
  simp only [pairB, Bool.and_eq_true, inB_iff] at hp
  rw [HL.out] at hp
  obtain ⟨⟨n1, n16⟩, i0, i1'⟩ := hp
  obtain ⟨k, hk⟩ : ∃ k : Nat, i = (k : Int) := ⟨i.toNat, by omega⟩
  subst hk
  have hkn : k < n := by omega
  obtain ⟨ad, z, rfl, ab, ac, HZ⟩ := HR.out.boolAt hkn
  have i1 : (k : Int) < (n : Int) := by omega
  have HP := Lib.hid e1
  clear e1
  cases z
  · cases e3 : numB b && numB a
    · have HF : Hid (ptakeV ss a b k = 0 ∧ ptakeB ss a b k = false) := Lib.hid (by have : ptakeB ss a b k = false := (by unfold ptakeB; rw [Bool.and_comm (numB a), e3, Bool.and_false]); exact ⟨by unfold ptakeV; rw [this]; rfl, this⟩)
      go_wp2_with fail
      refine (i_NumSub_no _ _ _ e3).mono ?_
      rintro e w' ⟨rfl, rfl⟩
      go_wp2
      go_ret2
      exact ⟨ret_ib2 HF.out.1.symm HF.out.2.symm, Below.refl _ _⟩
    · have HB : Hid (ptakeB ss a b k = true) := Lib.hid (by unfold ptakeB; rw [Bool.and_comm (numB a), e3, HP.out]; rfl)
      have HV : Hid (ptakeV ss a b k = (b - a) % 113) := Lib.hid (by unfold ptakeV; rw [if_pos HB.out, Int.toNat_natCast, ← HZ.out]; rfl)
      rw [Bool.and_eq_true] at e3
      go_wp2_with fail
      refine (i_NumSub _ _ _ e3.1 e3.2).mono ?_
      rintro e w' ⟨rfl, rfl⟩
      go_wp2
      go_ret2
      exact ⟨ret_ib2 HV.out.symm HB.out.symm, Below.refl _ _⟩
  · cases e3 : numB a && numB b
    · have HF : Hid (ptakeV ss a b k = 0 ∧ ptakeB ss a b k = false) := Lib.hid (by have : ptakeB ss a b k = false := (by unfold ptakeB; rw [e3, Bool.and_false]); exact ⟨by unfold ptakeV; rw [this]; rfl, this⟩)
      go_wp2_with fail
      refine (i_NumSub_no _ _ _ e3).mono ?_
      rintro e w' ⟨rfl, rfl⟩
      go_wp2
      go_ret2
      exact ⟨ret_ib2 HF.out.1.symm HF.out.2.symm, Below.refl _ _⟩
    · have HB : Hid (ptakeB ss a b k = true) := Lib.hid (by unfold ptakeB; rw [e3, HP.out]; rfl)
      have HV : Hid (ptakeV ss a b k = (a - b) % 113) := Lib.hid (by unfold ptakeV; rw [if_pos HB.out, Int.toNat_natCast, ← HZ.out]; rfl)
      rw [Bool.and_eq_true] at e3
      go_wp2_with fail
      refine (i_NumSub _ _ _ e3.1 e3.2).mono ?_
      rintro e w' ⟨rfl, rfl⟩
      go_wp2
      go_ret2
      exact ⟨ret_ib2 HV.out.symm HB.out.symm, Below.refl _ _⟩
theorem X_s_PairTake (v : Value) (d : List Bool) (a b i : Int) (w : World) (h : RdBoolS w w.heap.size v d) (hs : szBoolS d ≤ 1048576) :
    Calls Try.prog 28 #[v, .int .i64 a, .int .i64 b, .int .i64 i] w fun e w' => e = .returned (.tuple #[.int .i64 (ptakeV d a b i), .bool (ptakeB d a b i)]) ∧ Below w.heap.size w w' := by
  obtain ⟨A, n, c, rfl, _, r⟩ := h
  exact s_PairTake A n c d a b i w r (by have := r.blen; unfold szBoolS at hs; omega)
theorem X_i_PairTake (v : Value) (d : List Bool) (a b i : Int) (w : World) (h : RdBoolS w w.heap.size v d) (hs : szBoolS d ≤ 1048576) :
    Calls Try.prog 29 #[v, .int .i64 a, .int .i64 b, .int .i64 i] w fun e w' => e = .returned (.tuple #[.int .i64 (ptakeV d a b i), .bool (ptakeB d a b i)]) ∧ Below w.heap.size w w' := by
  obtain ⟨A, n, c, rfl, _, r⟩ := h
  exact i_PairTake A n c d a b i w r (by have := r.blen; unfold szBoolS at hs; omega)

set_option maxHeartbeats 4000000 in
theorem s_PairAnswer (A : Option Addr) (n c : Nat) (xs : List Int) (A' : Option Addr) (n' c' : Nat) (ss : List Bool) (w : World) (h : Rd w w.heap.size 1 A n (cI xs)) (hn : n ≤ 1048576) (h' : Rd w w.heap.size 1 A' n' (cB ss)) (hn' : n' ≤ 1048576) :
    Calls Try.prog 26 #[.slice A n c, .slice A' n' c'] w fun e w' => e = .returned (.tuple #[.int .i64 (answV xs ss), .bool (answB xs ss)]) ∧ Below w.heap.size w w' := by
  have HL := Lib.hid h.len
  have HL' := Lib.hid h'.blen
  have HR := Lib.hid h
  have HR' := Lib.hid h'
  clear h h'
  go_enter Try.func26, Try.ntmps26
  go_wp2_with fail
  refine (s_TableOk _ _ _ _ _ HR.out hn).mono ?_
  rintro e w' ⟨rfl, rfl⟩
  cases e1 : tabB xs
  · have HF : Hid (answV xs ss = 0 ∧ answB xs ss = false) := Lib.hid (by simp [answV, answB, e1])
    go_wp2
    go_ret2
    exact ⟨ret_ib2 HF.out.1.symm HF.out.2.symm, Below.refl _ _⟩
  have hp := e1
  simp only [tabB, Bool.and_eq_true, inB_iff] at hp
  rw [HL.out] at hp
  obtain ⟨⟨n1, n16⟩, hN⟩ := hp
  by_cases hnn : n' = n
  · subst hnn
    have HB : Hid (answB xs ss = true) := Lib.hid (by simp [answB, e1, HL.out, HL'.out])
    have HV : Hid (answV xs ss = sumK xs ss n') := Lib.hid (by rw [answV, if_pos HB.out, HL.out])
    have HN := Lib.hid (nums_of_B hN)
    clear e1 hN
    have hnz : ¬ n' = 0 := by omega
    go_wp2
    go_loop [6, 7] (fun s i => ∃ (k : Nat) (sm : Int), k ≤ n' ∧ i = .int .i64 k ∧ s = .int .i64 sm ∧ Hid (sm = sumK xs ss k)) (fun _ i => n' - (intOf i).toNat)
    case atStart => exact ⟨0, 0, Nat.zero_le _, rfl, rfl, Lib.hid rfl⟩
    case round =>
      obtain ⟨k, sm, hk, rfl, rfl, HS⟩ := hrel
      by_cases hlt : k < n'
      · obtain ⟨a, x, hAa, hab, hcx, HX⟩ := HR.out.intAt hlt
        obtain ⟨a', z, hAa', hab', hcz, HZ⟩ := HR'.out.boolAt hlt
        subst hAa
        subst hAa'
        have sb := sumK_bd xs ss k
        have xb := HN.out k
        rw [← HS.out] at sb
        rw [← HX.out] at xb
        obtain ⟨s0, s1⟩ := sb
        obtain ⟨x0, x1⟩ := xb
        have HS2 : Hid (sumK xs ss (k + 1) = if z = true then (sm + x) % 113 else sm) := Lib.hid (by rw [sumK, ← HS.out, ← HX.out, ← HZ.out])
        have i0 : (0 : Int) ≤ (k : Int) := by omega
        have i1 : (k : Int) < (n' : Int) := by omega
        cases z
        · have HS3 : Hid (sm = sumK xs ss (k + 1)) := Lib.hid (by rw [HS2.out]; simp)
          clear HS2 HS
          go_wp2
          go_round
          case rel => exact ⟨k + 1, sm, by omega, by go_num, rfl, HS3⟩
          case measure => simp [intOf] <;> omega
        · have HS3 : Hid ((sm + x) % 113 = sumK xs ss (k + 1)) := Lib.hid (by rw [HS2.out]; simp)
          clear HS2 HS
          go_wp2
          go_round
          case rel => exact ⟨k + 1, _, by omega, by go_num, rfl, HS3⟩
          case measure => simp [intOf] <;> omega
      · obtain rfl : k = n' := by omega
        have HV2 : Hid (answV xs ss = sm) := Lib.hid (by rw [HV.out, HS.out])
        clear HS HV
        go_wp2
        go_ret2
        exact ⟨ret_ib2 HV2.out.symm HB.out.symm, Below.refl _ _⟩
  · have q0 : ((n' : Int) != (n : Int)) = true := by rw [bne_iff_ne]; omega
    have q1 : ¬ (n' : Int) = (n : Int) := by omega
    have HF : Hid (answV xs ss = 0 ∧ answB xs ss = false) := Lib.hid (by simp [answV, answB, e1, HL.out, HL'.out, hnn])
    clear e1 hN
    go_wp2
    go_ret2
    exact ⟨ret_ib2 HF.out.1.symm HF.out.2.symm, Below.refl _ _⟩

set_option maxHeartbeats 4000000 in
theorem i_sums1 (b bt : Nat) (A : Option Addr) (n c : Nat) (xs : List Int) (A' : Option Addr) (c' : Nat) (ss : List Bool) (w : World) (hb : w.cell? ⟨b, 0, none⟩ = some (.pointer (some ⟨bt, 0, none⟩))) (ht : w.cell? ⟨bt, 0, none⟩ = some (.slice A n c))
    (h : Rd w w.heap.size 1 A n (cI xs)) (hn : n ≤ 16) (h' : Rd w w.heap.size 1 A' n (cB ss)) (hN : Nums xs) :
    Calls Try.prog 79 #[.slice A' n c', .pointer (some ⟨b, 0, none⟩)] w fun e w' => e = .returned (.int .i64 (sumK xs ss n)) ∧ w = w' := by
  have HR := Lib.hid h
  have HR' := Lib.hid h'
  have HN := Lib.hid hN
  clear h h' hN
  go_enter Try.func79, Try.ntmps79
  go_wp2
  go_loop [4, 11] (fun s i => ∃ (k : Nat) (sm : Int), k ≤ n ∧ i = .int .i64 k ∧ s = .int .i64 sm ∧ Hid (sm = sumK xs ss k)) (fun _ i => n - (intOf i).toNat)
  case atStart => exact ⟨0, 0, Nat.zero_le _, rfl, rfl, Lib.hid rfl⟩
  case round =>
    obtain ⟨k, sm, hk, rfl, rfl, HS⟩ := hrel
    by_cases hlt : k < n
    · obtain ⟨a, x, hAa, hab, hcx, HX⟩ := HR.out.intAt hlt
      obtain ⟨a', z, hAa', hab', hcz, HZ⟩ := HR'.out.boolAt hlt
      subst hAa
      subst hAa'
      have sb := sumK_bd xs ss k
      have xb := HN.out k
      rw [← HS.out] at sb
      rw [← HX.out] at xb
      obtain ⟨s0, s1⟩ := sb
      obtain ⟨x0, x1⟩ := xb
      have HS2 : Hid (sumK xs ss (k + 1) = if z = true then (sm + x) % 113 else sm) := Lib.hid (by rw [sumK, ← HS.out, ← HX.out, ← HZ.out])
      have i0 : (0 : Int) ≤ (k : Int) := by omega
      have i1 : (k : Int) < (n : Int) := by omega
      cases z
      · have HS3 : Hid (sm = sumK xs ss (k + 1)) := Lib.hid (by rw [HS2.out]; simp)
        clear HS2 HS
        go_wp2
        go_round
        case rel => exact ⟨k + 1, sm, by omega, by go_num, rfl, HS3⟩
        case measure => simp [intOf] <;> omega
      · have HS3 : Hid ((sm + x) % 113 = sumK xs ss (k + 1)) := Lib.hid (by rw [HS2.out]; simp)
        clear HS2 HS
        go_wp2_with fail
        refine (i_plus _ _ _ s0 s1 x0 x1).mono ?_
        rintro e w' ⟨rfl, rfl⟩
        go_wp2
        go_round
        case rel => exact ⟨k + 1, _, by omega, by go_num, rfl, HS3⟩
        case measure => simp [intOf] <;> omega
    · obtain rfl : k = n := by omega
      have HV2 : Hid (sumK xs ss k = sm) := Lib.hid HS.out.symm
      clear HS
      go_wp2
      go_ret
      exact ⟨ret_i HV2.out.symm, rfl⟩
set_option maxHeartbeats 1000000 in
theorem i_sums (bt : Nat) (w : World) :
    Calls Try.prog 54 #[.pointer (some ⟨bt, 0, none⟩)] w fun e w' => e = .returned (.func (.func 79) #[] #[.pointer (some ⟨w.heap.size, 0, none⟩)]) ∧ w' = w.alloc (.cells #[.pointer (some ⟨bt, 0, none⟩)] 99) := by
  go_enter Try.func54, Try.ntmps54
  go_wp2
  go_ret
  exact ⟨rfl, rfl⟩

set_option maxHeartbeats 4000000 in
theorem i_PairAnswer (A : Option Addr) (n c : Nat) (xs : List Int) (A' : Option Addr) (n' c' : Nat) (ss : List Bool) (w : World) (h : Rd w w.heap.size 1 A n (cI xs)) (hn : n ≤ 1048576) (h' : Rd w w.heap.size 1 A' n' (cB ss)) (hn' : n' ≤ 1048576) :
    Calls Try.prog 27 #[.slice A n c, .slice A' n' c'] w fun e w' => e = .returned (.tuple #[.int .i64 (answV xs ss), .bool (answB xs ss)]) ∧ Below w.heap.size w w' := by
  have HL := Lib.hid h.len
  have HL' := Lib.hid h'.blen
  have HR := Lib.hid h
  have HR' := Lib.hid h'
  clear h h'
  go_enter Try.func27, Try.ntmps27
  go_wp2_with fail
  refine (i_TableOk _ _ _ _ _ HR.out hn).mono ?_
  rintro e w' ⟨rfl, rfl⟩
  cases e1 : tabB xs
  · have HF : Hid (answV xs ss = 0 ∧ answB xs ss = false) := Lib.hid (by simp [answV, answB, e1])
    go_wp2
    go_ret2
    exact ⟨ret_ib2 HF.out.1.symm HF.out.2.symm, Below.refl _ _⟩
  have hp := e1
  simp only [tabB, Bool.and_eq_true, inB_iff] at hp
  rw [HL.out] at hp
  obtain ⟨⟨n1, n16⟩, hN⟩ := hp
  by_cases hnn : n' = n
  · subst hnn
    have HB : Hid (answB xs ss = true) := Lib.hid (by simp [answB, e1, HL.out, HL'.out])
    have HV : Hid (answV xs ss = sumK xs ss n') := Lib.hid (by rw [answV, if_pos HB.out, HL.out])
    have HN := Lib.hid (nums_of_B hN)
    clear e1 hN
    have hnz : ¬ n' = 0 := by omega
    obtain ⟨w1, HW1⟩ : ∃ w1, Hid (w.alloc (.cells #[.slice A n' c] 65) = w1) := ⟨_, Lib.hid rfl⟩
    have HB1 : Hid (Below w.heap.size w w1) := Lib.hid (HW1.out ▸ (Below.refl _ _).alloc (Nat.le_refl _) _)
    have HX1 : Hid (Bx w1 w.heap.size #[.slice A n' c] 65) := Lib.hid (HW1.out ▸ Bx.new _ _ _)
    go_wp2_with fail
    rw [HW1.out]
    refine (i_sums _ _).mono ?_
    rintro e w2 ⟨rfl, hw2⟩
    have HB2 : Hid (Below w.heap.size w w2) := Lib.hid (by rw [hw2]; exact HB1.out.alloc HB1.out.size _)
    have c1 : w2.cell? ⟨w1.heap.size, 0, none⟩ = some (.pointer (some ⟨w.heap.size, 0, none⟩)) := by rw [hw2]; exact (Bx.new _ _ _).cell 0
    have c2 : w2.cell? ⟨w.heap.size, 0, none⟩ = some (.slice A n' c) := by rw [hw2]; exact (HX1.out.alloc _).cell 0
    clear hw2
    go_wp2_with fail
    refine (i_sums1 _ _ A n' c xs A' c' ss w2 c1 c2 ((HR.out.below HB2.out).more HB2.out.size) (by omega) ((HR'.out.below HB2.out).more HB2.out.size) HN.out).mono ?_
    rintro e w' ⟨rfl, rfl⟩
    go_wp2
    go_ret2
    exact ⟨ret_ib2 HV.out.symm HB.out.symm, HB2.out⟩
  · have q0 : ((n' : Int) != (n : Int)) = true := by rw [bne_iff_ne]; omega
    have q1 : ¬ (n' : Int) = (n : Int) := by omega
    have HF : Hid (answV xs ss = 0 ∧ answB xs ss = false) := Lib.hid (by simp [answV, answB, e1, HL.out, HL'.out, hnn])
    clear e1 hN
    go_wp2
    go_ret2
    exact ⟨ret_ib2 HF.out.1.symm HF.out.2.symm, Below.refl _ _⟩
theorem X_s_PairAnswer (v v' : Value) (d : List Int) (d' : List Bool) (w : World) (h : RdIntS w w.heap.size v d) (h' : RdBoolS w w.heap.size v' d') (hs : szIntS d ≤ 1048576) (hs' : szBoolS d' ≤ 1048576) :
    Calls Try.prog 26 #[v, v'] w fun e w' => e = .returned (.tuple #[.int .i64 (answV d d'), .bool (answB d d')]) ∧ Below w.heap.size w w' := by
  obtain ⟨A, n, c, rfl, _, r⟩ := h
  obtain ⟨A', n', c', rfl, _, r'⟩ := h'
  exact s_PairAnswer A n c d A' n' c' d' w r (by have := r.len; unfold szIntS at hs; omega) r' (by have := r'.blen; unfold szBoolS at hs'; omega)
theorem X_i_PairAnswer (v v' : Value) (d : List Int) (d' : List Bool) (w : World) (h : RdIntS w w.heap.size v d) (h' : RdBoolS w w.heap.size v' d') (hs : szIntS d ≤ 1048576) (hs' : szBoolS d' ≤ 1048576) :
    Calls Try.prog 27 #[v, v'] w fun e w' => e = .returned (.tuple #[.int .i64 (answV d d'), .bool (answB d d')]) ∧ Below w.heap.size w w' := by
  obtain ⟨A, n, c, rfl, _, r⟩ := h
  obtain ⟨A', n', c', rfl, _, r'⟩ := h'
  exact i_PairAnswer A n c d A' n' c' d' w r (by have := r.len; unfold szIntS at hs; omega) r' (by have := r'.blen; unfold szBoolS at hs'; omega)
end Go.Proofs.Ytbabkaofhhaneaa

/- Chapter 12: a copy of truths; PairAsk of both sides. Made by tools/gen12/ask.py. -/
namespace Go.Proofs.Ytbabkaofhhaneaa
open Go.RowKit
set_option maxRecDepth 100000

set_option maxHeartbeats 2000000 in
theorem i_CloneB (a : Addr) (n c : Nat) (ss : List Bool) (w : World) (h : Rd w w.heap.size 1 (some a) n (cB ss)) (hn : n ≤ 1048576) :
    Calls Try.prog 53 #[.slice (some a) n c] w fun e w' => ∃ A' c', e = .returned (.slice A' n c') ∧ Ow w' w.heap.size w'.heap.size 4 1 A' n c' (cB ss) ∧ Below w.heap.size w w' := by
  have HLIT1 := Lib.hid (own_empty w 4 1)
  have HRD1 : Hid (Rd (w.alloc (.cells #[] 4)) w.heap.size 1 (some a) n (cB ss)) := Lib.hid (h.below ((Below.refl _ _).alloc (Nat.le_refl _) _))
  have he : ∀ w : World, (binOp .eql 26 (.slice (some a) n c) (.slice none 0 0)).run Try.prog w = .ok (.bool false) w := fun _ => rfl
  clear h
  go_enter Try.func53, Try.ntmps53
  go_wp2_with (at_builtin
               refine wpList_append_rd rfl (.tmp 5) (.tmp 6) _ rfl w.heap.size 4 _ 1 1 Try.underlying26 info_bool rfl (by decide) (.slice (some ⟨w.heap.size, 0, none⟩) 0 0) 0 [] rfl HLIT1.out _ _ n c (cB ss) rfl HRD1.out (cB_one _) (by unfold maxLen; omega) (by omega) (by simp) ?_
               intro v1 w1 hown hgr hat
               rw [Nat.zero_add, List.nil_append] at hown
               obtain ⟨A1, c1, hv1, ho1⟩ := Ow.of_own hown
               subst hv1
               have HO1 : Hid (Ow w1 w.heap.size w1.heap.size 4 1 A1 n c1 (cB ss)) := Lib.hid ho1
               have HB1 : Hid (Below w.heap.size w w1) := Lib.hid (below_grown ((Below.refl _ _).alloc (Nat.le_refl _) _) hgr (fun g e => by simp [Value.ownBlock] at e; omega) (by simp))
               clear hown hgr hat ho1 HLIT1 HRD1)
  go_ret
  exact ⟨_, _, rfl, HO1.out, HB1.out⟩

set_option maxHeartbeats 4000000 in
theorem X_s_PairAsk (v : Value) (ss : List Bool) (i : Int) (w : World) (h : RdBoolS w w.heap.size v ss) (hs : szBoolS ss ≤ 1048576) :
    Calls Try.prog 20 #[v, .int .i64 i] w fun e w' => ∃ g1 g2 mid, e = .returned (.tuple #[g1, g2, .bool (R_PairAsk_2 ss i)]) ∧ w.heap.size ≤ mid ∧ mid ≤ w'.heap.size ∧ OwBoolS w' w.heap.size mid g1 (R_PairAsk_0 ss i) ∧ OwBoolS w' mid w'.heap.size g2 (R_PairAsk_1 ss i) ∧ Below w.heap.size w w' := by
  obtain ⟨A, n, c, rfl, hm, h⟩ := h
  have hn : n ≤ 1048576 := by have := h.blen; unfold szBoolS at hs; omega
  have HL := Lib.hid h.blen
  have HR := Lib.hid h
  clear h hs hm
  go_enter Try.func20, Try.ntmps20
  go_wp2_with fail
  refine (s_l6In _ _ _ _).mono ?_
  rintro e w' ⟨rfl, rfl⟩
  cases e1 : inB (n : Int) 1 16
  · have HF : Hid (R_PairAsk_2 ss i = false ∧ R_PairAsk_0 ss i = [] ∧ R_PairAsk_1 ss i = []) := Lib.hid (by simp [R_PairAsk_2, R_PairAsk_1, R_PairAsk_0, pairB, HL.out, e1])
    go_wp2
    go_ret3
    refine ⟨_, _, w.heap.size, ret_vvb2 HF.out.1.symm, Nat.le_refl _, Nat.le_refl _, ?_, ?_, Below.refl _ _⟩
    · rw [HF.out.2.1]; exact OwBoolS.nil_ _ _ _
    · rw [HF.out.2.2]; exact OwBoolS.nil_ _ _ _
  obtain ⟨n1, n16⟩ := inB_iff.1 e1
  have im : IntKind.i64.wrap ((n : Int) - 1) = (n : Int) - 1 := IntWalk.i64_in _ (by omega)
  go_wp2_with fail
  refine (s_l6In _ _ _ _).mono ?_
  rintro e w' ⟨rfl, rfl⟩
  cases e2 : inB i 0 ((n : Int) - 1)
  · have HF : Hid (R_PairAsk_2 ss i = false ∧ R_PairAsk_0 ss i = [] ∧ R_PairAsk_1 ss i = []) := Lib.hid (by simp [R_PairAsk_2, R_PairAsk_1, R_PairAsk_0, pairB, HL.out, e2])
    go_wp2
    go_ret3
    refine ⟨_, _, w.heap.size, ret_vvb2 HF.out.1.symm, Nat.le_refl _, Nat.le_refl _, ?_, ?_, Below.refl _ _⟩
    · rw [HF.out.2.1]; exact OwBoolS.nil_ _ _ _
    · rw [HF.out.2.2]; exact OwBoolS.nil_ _ _ _
  have HP : Hid (pairB ss i = true) := Lib.hid (by simp [pairB, HL.out, e1, e2])
  obtain ⟨i0, i1'⟩ := inB_iff.1 e2
  clear e1 e2 im
  obtain ⟨k, hk⟩ : ∃ k : Nat, i = (k : Int) := ⟨i.toNat, by omega⟩
  subst hk
  have hkn : k < n := by omega
  obtain ⟨ad, z, hA, ab, ac, HZ⟩ := HR.out.boolAt hkn
  subst hA
  have i1 : (k : Int) < (n : Int) := by omega
  have HF0 : Hid (R_PairAsk_0 ss k = ss) := Lib.hid (by unfold R_PairAsk_0; rw [if_pos HP.out])
  have HF1 : Hid (R_PairAsk_1 ss k = ss.set k (!z)) := Lib.hid (by unfold R_PairAsk_1; rw [if_pos HP.out, Int.toNat_natCast, ← HZ.out])
  have HF2 : Hid (R_PairAsk_2 ss k = true) := Lib.hid HP.out
  have HLIT1 := Lib.hid (own_empty w 4 1)
  have HRD1 : Hid (Rd (w.alloc (.cells #[] 4)) w.heap.size 1 (some ad) n (cB ss)) := Lib.hid (HR.out.below ((Below.refl _ _).alloc (Nat.le_refl _) _))
  clear ac
  go_wp2_with (first
   | (at_builtin
      refine wpList_append_rd rfl (.tmp 21) (.tmp 22) _ rfl w.heap.size 4 _ 1 1 Try.underlying26 info_bool rfl (by decide) (.slice (some ⟨w.heap.size, 0, none⟩) 0 0) 0 [] rfl HLIT1.out _ _ n c (cB ss) rfl HRD1.out (cB_one _) (by unfold maxLen; omega) (by omega) (by simp) ?_
      intro v1 w1 hown hgr hat
      rw [Nat.zero_add, List.nil_append] at hown
      obtain ⟨A1, c1, hv1, ho1⟩ := Ow.of_own hown
      subst hv1
      have HO1 : Hid (Ow w1 w.heap.size w1.heap.size 4 1 A1 n c1 (cB ss)) := Lib.hid ho1
      have HB1 : Hid (Below w.heap.size w w1) := Lib.hid (below_grown ((Below.refl _ _).alloc (Nat.le_refl _) _) hgr (fun g e => by simp [Value.ownBlock] at e; omega) (by simp))
      have HLIT2 := Lib.hid (own_empty w1 4 1)
      have HRD2 : Hid (Rd (w1.alloc (.cells #[] 4)) w1.heap.size 1 (some ad) n (cB ss)) := Lib.hid (((HR.out.below HB1.out).more HB1.out.size).below ((Below.refl _ _).alloc (Nat.le_refl _) _))
      clear hown hgr hat ho1 HLIT1 HRD1)
   | (at_builtin
      refine wpList_append_rd rfl (.tmp 24) (.tmp 25) _ rfl w1.heap.size 4 _ 1 1 Try.underlying26 info_bool rfl (by decide) (.slice (some ⟨w1.heap.size, 0, none⟩) 0 0) 0 [] rfl HLIT2.out _ _ n c (cB ss) rfl HRD2.out (cB_one _) (by unfold maxLen; omega) (by omega) (by simp) ?_
      intro v2 w2 hown hgr hat
      rw [Nat.zero_add, List.nil_append] at hown
      obtain ⟨A2, c2, hv2, ho2⟩ := Ow.of_own hown
      subst hv2
      have HO2 : Hid (Ow w2 w1.heap.size w2.heap.size 4 1 A2 n c2 (cB ss)) := Lib.hid ho2
      have HB2 : Hid (Below w1.heap.size w1 w2) := Lib.hid (below_grown ((Below.refl _ _).alloc (Nat.le_refl _) _) hgr (fun g e => by simp [Value.ownBlock] at e; omega) (by simp))
      have HO12 := Lib.hid (HO1.out.below HB2.out (Nat.le_refl _))
      have HB12 := Lib.hid (HB1.out.trans (HB2.out.mono HB1.out.size))
      obtain ⟨g2, cs2, hA2, g20, g21, _, _⟩ := HO2.out.lt (by omega)
      subst hA2
      obtain ⟨z2, hc2, HZ2⟩ := HO2.out.boolAt hkn
      obtain rfl : z2 = z := HZ2.out.trans HZ.out.symm
      have hf2 := HO2.out.free (by omega) k
      have z21 := HB2.out.size
      have z1 := HB1.out.size
      clear hown hgr hat ho2 HLIT2 HRD2))
  go_ret3
  refine ⟨_, _, w1.heap.size, ret_vvb2 HF2.out.symm, z1, ?_, ?_, ?_, ?_⟩
  · rw [World.size_setCell]; exact z21
  · rw [HF0.out]
    exact ⟨by rw [HL.out]; exact hn, _, _, _, rfl, HO12.out.below (Below.setCell (Below.refl w1.heap.size _) (p := ⟨g2, k, none⟩) g20 _) (Nat.le_refl _)⟩
  · rw [HF1.out]
    refine ⟨by rw [List.length_set, HL.out]; exact hn, _, _, _, rfl, ?_⟩
    have := HO2.out.set k (.bool (!z2))
    rw [cB_set] at this
    rw [World.size_setCell]; exact this
  · exact HB12.out.setCell (p := ⟨g2, k, none⟩) (Nat.le_trans z1 g20) _

set_option maxHeartbeats 4000000 in
theorem X_i_PairAsk (v : Value) (ss : List Bool) (i : Int) (w : World) (h : RdBoolS w w.heap.size v ss) (hs : szBoolS ss ≤ 1048576) :
    Calls Try.prog 22 #[v, .int .i64 i] w fun e w' => ∃ g1 g2 mid, e = .returned (.tuple #[g1, g2, .bool (R_PairAsk_2 ss i)]) ∧ w.heap.size ≤ mid ∧ mid ≤ w'.heap.size ∧ OwBoolS w' mid w'.heap.size g1 (R_PairAsk_0 ss i) ∧ OwBoolS w' w.heap.size mid g2 (R_PairAsk_1 ss i) ∧ Below w.heap.size w w' := by
  obtain ⟨A, n, c, rfl, hm, h⟩ := h
  have hn : n ≤ 1048576 := by have := h.blen; unfold szBoolS at hs; omega
  have HL := Lib.hid h.blen
  have HR := Lib.hid h
  clear h hs hm
  go_enter Try.func22, Try.ntmps22
  go_wp2_with fail
  refine (i_inSet A n c i ss _ HL.out).mono ?_
  rintro e w' ⟨rfl, rfl⟩
  cases e1 : pairB ss i
  · have HF : Hid (R_PairAsk_2 ss i = false ∧ R_PairAsk_0 ss i = [] ∧ R_PairAsk_1 ss i = []) := Lib.hid (by simp [R_PairAsk_2, R_PairAsk_1, R_PairAsk_0, e1])
    go_wp2
    go_ret3
    refine ⟨_, _, w.heap.size, ret_vvb2 HF.out.1.symm, Nat.le_refl _, Nat.le_refl _, ?_, ?_, Below.refl _ _⟩
    · rw [HF.out.2.1]; exact OwBoolS.nil_ _ _ _
    · rw [HF.out.2.2]; exact OwBoolS.nil_ _ _ _
  have hp := e1
  simp only [pairB, Bool.and_eq_true, inB_iff] at hp
  rw [HL.out] at hp
  obtain ⟨⟨n1, n16⟩, i0, i1'⟩ := hp
  have HP := Lib.hid e1
  clear e1
  obtain ⟨k, hk⟩ : ∃ k : Nat, i = (k : Int) := ⟨i.toNat, by omega⟩
  subst hk
  have hkn : k < n := by omega
  obtain ⟨ad, z, hA, ab, ac, HZ⟩ := HR.out.boolAt hkn
  subst hA
  have i1 : (k : Int) < (n : Int) := by omega
  have HF0 : Hid (R_PairAsk_0 ss k = ss) := Lib.hid (by unfold R_PairAsk_0; rw [if_pos HP.out])
  have HF1 : Hid (R_PairAsk_1 ss k = ss.set k (!z)) := Lib.hid (by unfold R_PairAsk_1; rw [if_pos HP.out, Int.toNat_natCast, ← HZ.out])
  have HF2 : Hid (R_PairAsk_2 ss k = true) := Lib.hid HP.out
  clear ac
  go_wp2_with fail
  refine (i_CloneB ad n c ss w HR.out hn).mono ?_
  rintro e w1 ⟨A1, c1, rfl, ho, hb⟩
  have HB1 := Lib.hid hb
  have HO1 := Lib.hid ho
  clear hb ho
  obtain ⟨g2, cs2, hA2, g20, g21, _, _⟩ := HO1.out.lt (by omega)
  subst hA2
  obtain ⟨z2, hc2, HZ2⟩ := HO1.out.boolAt hkn
  obtain rfl : z2 = z := HZ2.out.trans HZ.out.symm
  have hf2 := HO1.out.free (by omega) k
  have z1 := HB1.out.size
  obtain ⟨w2, hw2⟩ : ∃ w2, Hid (w1.setCell ⟨g2, k, none⟩ (.bool (!z2)) = w2) := ⟨_, Lib.hid rfl⟩
  have hz2 : w2.heap.size = w1.heap.size := by rw [← hw2.out, World.size_setCell]
  have HB2 : Hid (Below w.heap.size w w2) := Lib.hid (by rw [← hw2.out]; exact HB1.out.setCell (p := ⟨g2, k, none⟩) g20 _)
  have HO2 : Hid (Ow w2 w.heap.size w2.heap.size 4 1 (some ⟨g2, 0, none⟩) n c1 (cB (ss.set k (!z2)))) := Lib.hid (by
    have := HO1.out.set k (.bool (!z2))
    rw [cB_set] at this
    rw [hz2, ← hw2.out]; exact this)
  go_wp2_with fail
  rw [hw2.out]
  refine (i_CloneB ad n c ss w2 ((HR.out.below HB2.out).more HB2.out.size) hn).mono ?_
  rintro e w3 ⟨A3, c3, rfl, ho, hb⟩
  have HO3 := Lib.hid ho
  have HB3 := Lib.hid hb
  clear ho hb
  have HO23 := Lib.hid (HO2.out.below HB3.out (Nat.le_refl _))
  go_wp2
  go_ret3
  refine ⟨_, _, w2.heap.size, ret_vvb2 HF2.out.symm, HB2.out.size, HB3.out.size, ?_, ?_, HB2.out.trans (HB3.out.mono HB2.out.size)⟩
  · rw [HF0.out]; exact ⟨by rw [HL.out]; exact hn, _, _, _, rfl, HO3.out⟩
  · rw [HF1.out]; exact ⟨by rw [List.length_set, HL.out]; exact hn, _, _, _, rfl, HO23.out⟩
end Go.Proofs.Ytbabkaofhhaneaa

/- P69, P70, P71, P72: the laws' walks. Made by tools/plain/p12.py. -/
namespace Go.Proofs.Ytbabkaofhhaneaa
open Go.RowKit
set_option maxRecDepth 100000

theorem quiet_ex2 {P : Program} {f : FuncId} {args : Array Value} {w : World} {a : Nat} {v : Value} (h : Calls P f args (w.drewN a) fun e w' => e = .returned v ∧ ∃ m, w' = (w.drewN a).drewN m) : Calls P f args (w.drewN a) fun e w'' => e = .returned v ∧ ∃ m, w'' = w.drewN m :=
  h.mono fun _ _ ⟨he, m, hm⟩ => ⟨he, a + m, by rw [hm, World.drewN_drewN]⟩
set_option maxHeartbeats 400000 in
theorem u_uvBools (A A' : Option Addr) (n c c' : Nat) (zs : List Bool) (w : World) (h : Rd w w.heap.size 1 A n (cB zs)) (h' : Rd w w.heap.size 1 A' n (cB zs)) (hn : n ≤ 1048576) :
    Calls Try.prog 45 #[.slice A n c, .slice A' n c'] w fun e w' => e = .returned (.bool true) ∧ ∃ m, w' = w.drewN m := by
  have H := Lib.hid h
  have H' := Lib.hid h'
  clear h h'
  go_enter Try.func45, Try.ntmps45
  go_wp2
  go_loopw [5] (fun i wr => ∃ k m : Nat, k ≤ n ∧ i = .int .i64 k ∧ wr = w.drewN m) (fun i _ => n - (intOf i).toNat)
  case atStart => exact ⟨0, 0, Nat.zero_le _, rfl, rfl⟩
  case round =>
    obtain ⟨k, m, hk, rfl, rfl⟩ := hrel
    by_cases hlt : k < n
    · obtain ⟨a, z, rfl, hab, hck, HZ⟩ := H.out.boolAt hlt
      obtain ⟨a', z', rfl, hab', hck', HZ'⟩ := H'.out.boolAt hlt
      obtain rfl : z = z' := HZ.out.trans HZ'.out.symm
      have i0 : (0 : Int) ≤ (k : Int) := by omega
      have i1 : (k : Int) < (n : Int) := by omega
      go_wp2
      go_quiet (fail)
      go_wp2
      go_roundw
      case rel => exact ⟨k + 1, _, by omega, by go_num, rfl⟩
      case measure => simp [intOf] <;> omega
    · go_wp2
      go_ret
      exact ⟨rfl, m, rfl⟩
theorem U_uvBoolsQ (hi hi' : Nat) (v v' : Value) (d : List Bool) (w : World) (h : RdBoolS w hi v d) (h' : RdBoolS w hi' v' d) (hh : hi ≤ w.heap.size) (hh' : hi' ≤ w.heap.size) (hs : szBoolS d ≤ 1048576) :
    Calls Try.prog 45 #[v, v'] w fun e w' => e = .returned (.bool true) ∧ ∃ m, w' = w.drewN m := by
  obtain ⟨A, n, c, rfl, _, r⟩ := h
  obtain ⟨A', n', c', rfl, _, r'⟩ := h'
  have hl := r.blen
  have hl' := r'.blen
  obtain rfl : n' = n := by omega
  unfold szBoolS at hs
  exact u_uvBools A A' _ c c' d w (r.more hh) (r'.more hh') (by omega)
theorem U_uvBools (hi hi' : Nat) (v v' : Value) (d : List Bool) (w : World) (h : RdBoolS w hi v d) (h' : RdBoolS w hi' v' d) (hh : hi ≤ w.heap.size) (hh' : hi' ≤ w.heap.size) (hs : szBoolS d ≤ 1048576) :
    Calls Try.prog 45 #[v, v'] w fun e w' => e = .returned (.bool true) ∧ Below w.heap.size w w' :=
  (U_uvBoolsQ hi hi' v v' d w h h' hh hh' hs).mono fun _ _ ⟨he, m, hm⟩ => ⟨he, by rw [hm]; exact below_drewN (Below.refl _ _) _⟩

set_option maxHeartbeats 4000000 in
theorem P71_walk (A : Option Addr) (n c : Nat) (bs : List Int) (w : World) (h : Rd w w.heap.size 1 A n (cU bs)) (hby : Byt bs) (hc : n ≤ c) (hm : n ≤ 9223372036854775807) :
    Calls Try.prog 13 #[.slice A n c] w fun e w' => e = .returned (.bool true) ∧ Below w.heap.size w w' := by
  by_cases hn : n ≤ 1048576
  · have h3 : ¬ ((1048576 : Int) < (n : Int)) := by omega
    have H := Lib.hid h
    clear h
    go_enter Try.func13, Try.ntmps13
    go_wp2_with fail
    refine (d_DrawPairTake _ _ _ _ _ H.out hby hn hc).mono ?_
    rintro e w1 ⟨v, d, a, b, i, rfl, h_s, hb⟩
    have z1 : w.heap.size ≤ w1.heap.size := hb.size
    have HB := Lib.hid hb
    have HO_s := Lib.hid h_s
    clear hb h_s
    go_wp2_with fail
    refine (X_i_PairTake _ d a b i _ (HO_s.out.rd.more (by omega)) HO_s.out.small).mono ?_
    rintro e w2 ⟨rfl, hb⟩
    have z2 : w1.heap.size ≤ w2.heap.size := hb.size
    replace HO_s := Lib.hid (HO_s.out.below hb (by omega))
    replace HB := Lib.hid (HB.out.trans (hb.mono (by omega)))
    clear hb
    go_wp2_with fail
    refine (X_s_PairTake _ d a b i _ (HO_s.out.rd.more (by omega)) HO_s.out.small).mono ?_
    rintro e w3 ⟨rfl, hb⟩
    have z3 : w2.heap.size ≤ w3.heap.size := hb.size
    replace HO_s := Lib.hid (HO_s.out.below hb (by omega))
    replace HB := Lib.hid (HB.out.trans (hb.mono (by omega)))
    clear hb
    cases hB : ptakeB d a b i
    · go_wp2
      go_ret
      exact ⟨rfl, HB.out⟩
    obtain ⟨hB2, hz, hx, hy⟩ := take_swap hB
    have HB2 := Lib.hid hB2
    obtain ⟨X, hX⟩ : ∃ X, Hid (ptakeV d a b i = X) := ⟨_, Lib.hid rfl⟩
    obtain ⟨Y, hY⟩ : ∃ Y, Hid (ptakeV d b a i = Y) := ⟨_, Lib.hid rfl⟩
    rw [hX.out, hY.out] at hz
    rw [hX.out] at hx
    rw [hY.out] at hy
    rw [hX.out]
    have iw : IntKind.i64.wrap (X + Y) = X + Y := IntWalk.i64_in _ (by omega)
    have im : (X + Y).tmod 113 = 0 := by rw [Int.tmod_eq_emod_of_nonneg (by omega)]; exact hz
    clear hB hB2 hz hx hy
    go_wp2_with fail
    refine (X_i_PairTake _ d b a i _ (HO_s.out.rd.more (by omega)) HO_s.out.small).mono ?_
    rintro e w4 ⟨rfl, hb⟩
    have z4 : w3.heap.size ≤ w4.heap.size := hb.size
    replace HO_s := Lib.hid (HO_s.out.below hb (by omega))
    replace HB := Lib.hid (HB.out.trans (hb.mono (by omega)))
    clear hb
    rw [hY.out, HB2.out]
    go_wp2
    go_ret
    exact ⟨rfl, HB.out⟩
  · have h3 : (1048576 : Int) < (n : Int) := by omega
    go_enter Try.func13, Try.ntmps13
    go_wp2
    go_ret
    exact ⟨rfl, Below.refl _ _⟩
end Go.Proofs.Ytbabkaofhhaneaa

/- P69, P70, P71, P72: the laws' walks. Made by tools/plain/p12.py. -/
namespace Go.Proofs.Ytbabkaofhhaneaa
open Go.RowKit
set_option maxRecDepth 100000


set_option maxHeartbeats 4000000 in
theorem P69_walk (A : Option Addr) (n c : Nat) (bs : List Int) (w : World) (h : Rd w w.heap.size 1 A n (cU bs)) (hby : Byt bs) (hc : n ≤ c) (hm : n ≤ 9223372036854775807) :
    Calls Try.prog 11 #[.slice A n c] w fun e w' => e = .returned (.bool true) ∧ Below w.heap.size w w' := by
  by_cases hn : n ≤ 1048576
  · have h3 : ¬ ((1048576 : Int) < (n : Int)) := by omega
    have H := Lib.hid h
    clear h
    go_enter Try.func11, Try.ntmps11
    go_wp2_with fail
    refine (d_DrawPairAsk _ _ _ _ _ H.out hby hn hc).mono ?_
    rintro e w1 ⟨v, d, i, rfl, hi, h_s, hb⟩
    have z1 : w.heap.size ≤ w1.heap.size := hb.size
    have HB := Lib.hid hb
    have HO_s := Lib.hid h_s
    clear hb h_s
    go_wp2_with fail
    refine (X_i_PairAsk _ d i _ (HO_s.out.rd.more (by omega)) HO_s.out.small).mono ?_
    rintro e w2 ⟨x0, x1, m1, rfl, zm1, zm2, h_x0, h_x1, hb⟩
    have z2 : w1.heap.size ≤ w2.heap.size := hb.size
    replace HO_s := Lib.hid (HO_s.out.below hb (by omega))
    replace HB := Lib.hid (HB.out.trans (hb.mono (by omega)))
    have HO_x0 := Lib.hid h_x0
    have HO_x1 := Lib.hid h_x1
    clear hb h_x0 h_x1
    go_wp2_with fail
    refine (X_s_PairAsk _ d i _ (HO_s.out.rd.more (by omega)) HO_s.out.small).mono ?_
    rintro e w3 ⟨y0, y1, m2, rfl, zm3, zm4, h_y0, h_y1, hb⟩
    have z3 : w2.heap.size ≤ w3.heap.size := hb.size
    replace HO_s := Lib.hid (HO_s.out.below hb (by omega))
    replace HO_x0 := Lib.hid (HO_x0.out.below hb (by omega))
    replace HO_x1 := Lib.hid (HO_x1.out.below hb (by omega))
    replace HB := Lib.hid (HB.out.trans (hb.mono (by omega)))
    have HO_y0 := Lib.hid h_y0
    have HO_y1 := Lib.hid h_y1
    clear hb h_y0 h_y1
    go_wp2_with fail
    refine (U_uvBools _ _ _ _ _ _ HO_x0.out.rd HO_y0.out.rd (by omega) (by omega) HO_x0.out.small).mono ?_
    rintro e w4 ⟨rfl, hb⟩
    have z4 : w3.heap.size ≤ w4.heap.size := hb.size
    replace HO_s := Lib.hid (HO_s.out.below hb (by omega))
    replace HO_x0 := Lib.hid (HO_x0.out.below hb (by omega))
    replace HO_x1 := Lib.hid (HO_x1.out.below hb (by omega))
    replace HO_y0 := Lib.hid (HO_y0.out.below hb (by omega))
    replace HO_y1 := Lib.hid (HO_y1.out.below hb (by omega))
    replace HB := Lib.hid (HB.out.trans (hb.mono (by omega)))
    clear hb
    go_wp2_with fail
    refine (U_uvBools _ _ _ _ _ _ HO_x1.out.rd HO_y1.out.rd (by omega) (by omega) HO_x1.out.small).mono ?_
    rintro e w5 ⟨rfl, hb⟩
    have z5 : w4.heap.size ≤ w5.heap.size := hb.size
    replace HO_s := Lib.hid (HO_s.out.below hb (by omega))
    replace HO_x0 := Lib.hid (HO_x0.out.below hb (by omega))
    replace HO_x1 := Lib.hid (HO_x1.out.below hb (by omega))
    replace HO_y0 := Lib.hid (HO_y0.out.below hb (by omega))
    replace HO_y1 := Lib.hid (HO_y1.out.below hb (by omega))
    replace HB := Lib.hid (HB.out.trans (hb.mono (by omega)))
    clear hb
    cases hB : R_PairAsk_2 d i
    · go_wp2
      go_ret
      exact ⟨rfl, HB.out⟩
    have hp : pairB d i = true := hB
    obtain ⟨b1, b2, b3⟩ := ask_back hp
    have HQ := Lib.hid (And.intro hp (And.intro b1 (And.intro b2 b3)))
    clear hB hp b1 b2 b3
    go_wp2_with fail
    refine (X_i_PairAsk _ (R_PairAsk_1 d i) i _ (HO_x1.out.rd.more (by omega)) HO_x1.out.small).mono ?_
    rintro e w6 ⟨a0, a1, m3, rfl, zm5, zm6, h_a0, h_a1, hb⟩
    have z6 : w5.heap.size ≤ w6.heap.size := hb.size
    replace HO_x0 := Lib.hid (HO_x0.out.below hb (by omega))
    replace HO_x1 := Lib.hid (HO_x1.out.below hb (by omega))
    replace HB := Lib.hid (HB.out.trans (hb.mono (by omega)))
    have HO_a0 := Lib.hid h_a0
    have HO_a1 := Lib.hid h_a1
    clear hb h_a0 h_a1
    rw [HQ.out.2.2.1] at HO_a0
    rw [HQ.out.2.2.2] at HO_a1
    have e0 : R_PairAsk_0 d i = d := by unfold R_PairAsk_0; rw [if_pos HQ.out.1]
    rw [e0] at HO_x0
    have hT : R_PairAsk_2 (R_PairAsk_1 d i) i = true := HQ.out.2.1
    rw [hT]
    clear hT e0
    have hp := HQ.out.1
    have HU1 := fun k => Lib.hid (U_uvBoolsQ _ _ a0 x1 _ (w6.drewN k) HO_a0.out.rd HO_x1.out.rd (by show _ ≤ w6.heap.size; omega) (by show _ ≤ w6.heap.size; omega) HO_x1.out.small)
    have HU2 := fun k => Lib.hid (U_uvBoolsQ _ _ a1 x0 _ (w6.drewN k) HO_a1.out.rd HO_x0.out.rd (by show _ ≤ w6.heap.size; omega) (by show _ ≤ w6.heap.size; omega) HO_x0.out.small)
    have e1 : R_PairAsk_1 d i = d.set i.toNat (!d.getD i.toNat false) := by unfold R_PairAsk_1; rw [if_pos hp]
    rw [e1] at HO_x1
    unfold pairB at hp
    simp only [Bool.and_eq_true, inB_iff] at hp
    obtain ⟨⟨n1, n16⟩, i0, i1⟩ := hp
    obtain ⟨k, hk⟩ : ∃ k : Nat, i = (k : Int) := ⟨i.toNat, by omega⟩
    subst hk
    rw [Int.toNat_natCast] at HO_x1
    obtain ⟨_, A0, n0, c0, rfl, r0⟩ := HO_x0.out
    obtain ⟨_, A1, n1', c1, rfl, r1⟩ := HO_x1.out
    have l0 := r0.blen
    have l1 := r1.blen
    rw [List.length_set] at l1
    obtain rfl : n1' = n0 := by omega
    have hkn : k < n1' := by omega
    obtain ⟨ad0, z0, hA0, _, hc0, HZ0⟩ := r0.rd.boolAt hkn
    obtain ⟨ad1, z1, hA1, _, hc1, HZ1⟩ := r1.rd.boolAt hkn
    subst hA0
    subst hA1
    have hz : z1 = !z0 := by rw [HZ1.out, HZ0.out, getD_setB _ _ _ _ (by omega), if_pos rfl]
    subst hz
    have j0 : (0 : Int) ≤ (k : Int) := by omega
    have j1 : (k : Int) < (n1' : Int) := by omega
    have hne : (z0 != !z0) = true := by cases z0 <;> rfl
    clear HO_x0 HO_x1 HO_a0 HO_a1 r0 r1 HZ1 n1 n16 i0 i1 e1
    go_wp2
    go_quiet ((first | (go_at_call 45; with_reducible exact quiet_ex2 (HU1 _).out) | (go_at_call 45; with_reducible exact quiet_ex2 (HU2 _).out)))
    go_wp2
    go_ret
    exact ⟨rfl, below_drewN HB.out _⟩
  · have h3 : (1048576 : Int) < (n : Int) := by omega
    go_enter Try.func11, Try.ntmps11
    go_wp2
    go_ret
    exact ⟨rfl, Below.refl _ _⟩
end Go.Proofs.Ytbabkaofhhaneaa

/- P69, P70, P71, P72: the laws' walks. Made by tools/plain/p12.py. -/
namespace Go.Proofs.Ytbabkaofhhaneaa
open Go.RowKit
set_option maxRecDepth 100000


theorem own_lowB {w : World} {B B' e s n : Nat} {v : Value} {xs : List Value} (h : w.ownsRow B e s v n xs) (hb : B' ≤ B) : w.ownsRow B' e s v n xs := by
  refine ⟨h.1, ?_⟩
  rcases h.2 with h0 | ⟨g, cap, cur, rfl, hg, r⟩
  · exact .inl h0
  · exact .inr ⟨g, cap, cur, rfl, by omega, r⟩
theorem own_apartB {u v : Value} (h : ∀ g, u.ownBlock = some g → v.ownBlock ≠ some g) : v.ownBlock = none ∨ v.ownBlock ≠ u.ownBlock := by
  cases hv : v.ownBlock with
  | none => exact .inl rfl
  | some g => exact .inr fun e => h g e.symm hv
theorem own_ltB {w : World} {B e s n g : Nat} {v : Value} {xs : List Value} (h : w.ownsRow B e s v n xs) (hg : v.ownBlock = some g) : g < w.heap.size := (h.lt g hg).2
theorem own_farB {u u' v : Value} {m : Nat} (h : ∀ g, u.ownBlock = some g → v.ownBlock ≠ some g) (hat : u'.ownBlock = u.ownBlock ∨ u'.ownBlock = some m) (hl : ∀ g, v.ownBlock = some g → g < m) : ∀ g, u'.ownBlock = some g → v.ownBlock ≠ some g := by
  intro g h1 h2
  rcases hat with e | e
  · exact h g (e.symm.trans h1) h2
  · rw [e] at h1; injection h1 with h1; have := hl g h2; omega

set_option maxHeartbeats 4000000 in
theorem P70_walk (A : Option Addr) (n c : Nat) (bs : List Int) (w : World) (h : Rd w w.heap.size 1 A n (cU bs)) (hby : Byt bs) (hc : n ≤ c) (hm : n ≤ 9223372036854775807) :
    Calls Try.prog 12 #[.slice A n c] w fun e w' => e = .returned (.bool true) ∧ Below w.heap.size w w' := by
  by_cases hn : n ≤ 1048576
  · have h3 : ¬ ((1048576 : Int) < (n : Int)) := by omega
    have H := Lib.hid h
    clear h
    go_enter Try.func12, Try.ntmps12
    go_wp2_with fail
    refine (d_DrawPairAnswer _ _ _ _ _ H.out hby hn hc).mono ?_
    rintro e w1 ⟨vt, t, vs, s, m0, rfl, zm0, zm1, h_t, h_s, hb⟩
    have z1 : w.heap.size ≤ w1.heap.size := hb.size
    have HB := Lib.hid hb
    have HO_t := Lib.hid h_t
    have HO_s := Lib.hid h_s
    clear hb h_t h_s
    go_wp2_with fail
    refine (X_i_PairAnswer _ _ t s _ (HO_t.out.rd.more (by omega)) (HO_s.out.rd.more (by omega)) HO_t.out.small HO_s.out.small).mono ?_
    rintro e w2 ⟨rfl, hb⟩
    have z2 : w1.heap.size ≤ w2.heap.size := hb.size
    replace HO_t := Lib.hid (HO_t.out.below hb (by omega))
    replace HO_s := Lib.hid (HO_s.out.below hb (by omega))
    replace HB := Lib.hid (HB.out.trans (hb.mono (by omega)))
    clear hb
    go_wp2_with fail
    refine (X_s_PairAnswer _ _ t s _ (HO_t.out.rd.more (by omega)) (HO_s.out.rd.more (by omega)) HO_t.out.small HO_s.out.small).mono ?_
    rintro e w3 ⟨rfl, hb⟩
    have z3 : w2.heap.size ≤ w3.heap.size := hb.size
    replace HO_t := Lib.hid (HO_t.out.below hb (by omega))
    replace HO_s := Lib.hid (HO_s.out.below hb (by omega))
    replace HB := Lib.hid (HB.out.trans (hb.mono (by omega)))
    clear hb
    cases hB : answB t s
    · go_wp2
      go_ret
      exact ⟨rfl, HB.out⟩
    obtain ⟨b1, b2, b3, b4, b5⟩ := answ_comp hB
    have HQ := Lib.hid (And.intro b1 (And.intro b2 (And.intro b3 (And.intro b4 b5))))
    clear hB b1 b2 b3 b4 b5
    obtain ⟨_, As, ns, cs, rfl, rs⟩ := HO_s.out
    have hls := rs.blen
    have HRS : Hid (Rd w3 w3.heap.size 1 As ns (cB s)) := Lib.hid (rs.rd.more (by omega))
    have hns : ns ≤ 1048576 := by have := HO_s.out.small; unfold szBoolS at this; omega
    clear rs
    have O0 : Hid (((w3.alloc (.cells #[] 4)).alloc (.cells #[] 4)).ownsRow w3.heap.size 4 1 (.slice (some ⟨w3.heap.size, 0, none⟩) 0 0) 0 (cB ((s.map (!·)).take 0))) := Lib.hid ((own_empty w3 _ 1).alloc _)
    have O1 : Hid (((w3.alloc (.cells #[] 4)).alloc (.cells #[] 4)).ownsRow w3.heap.size 4 1 (.slice (some ⟨w3.heap.size + 1, 0, none⟩) 0 0) 0 (cB (List.replicate 0 true))) := Lib.hid (by
      have := own_empty (w3.alloc (.cells #[] 4)) 4 1
      rw [World.size_alloc] at this
      exact own_lowB this (by omega))
    have BB0 : Hid (Below w3.heap.size w3 ((w3.alloc (.cells #[] 4)).alloc (.cells #[] 4))) := Lib.hid (((Below.refl _ _).alloc (Nat.le_refl _) _).alloc (by simp) _)
    go_wp2
    go_loopw [10, 11, 12] (fun ot al i wr => ∃ (k : Nat) (Ao : Option Addr) (co : Nat) (Aa : Option Addr) (ca : Nat), k ≤ ns ∧ i = .int .i64 k ∧ ot = .slice Ao k co ∧ al = .slice Aa k ca ∧ Hid (wr.ownsRow w3.heap.size 4 1 (.slice Ao k co) k (cB ((s.map (!·)).take k))) ∧ Hid (wr.ownsRow w3.heap.size 4 1 (.slice Aa k ca) k (cB (List.replicate k true))) ∧ Hid (∀ g, Value.ownBlock (.slice Ao k co) = some g → Value.ownBlock (.slice Aa k ca) ≠ some g) ∧ Hid (Below w3.heap.size w3 wr)) (fun _ _ i _ => ns - (intOf i).toNat)
    case atStart => exact ⟨0, _, 0, _, 0, Nat.zero_le _, rfl, rfl, rfl, O0, O1, Lib.hid (fun g h1 h2 => by simp [Value.ownBlock] at h1 h2; omega), BB0⟩
    case round =>
      clear O0 O1 BB0
      obtain ⟨k, Ao, co, Aa, ca, hk, rfl, rfl, rfl, HO, HA, HD, HBB⟩ := hrel
      by_cases hlt : k < ns
      · obtain ⟨ad, z, hAd, hab, hcz0, HZ⟩ := HRS.out.boolAt hlt
        subst hAd
        have hcz := (HBB.out.cell (p := ad.add k) (by rw [add_block]; exact hab)).trans hcz0
        have j0 : (0 : Int) ≤ (k : Int) := by omega
        have j1 : (k : Int) < (ns : Int) := by omega
        have hzw := HBB.out.size
        have HS : Hid ((s.map (!·)).take (k + 1) = (s.map (!·)).take k ++ [!z]) := Lib.hid (by
          rw [List.take_succ_eq_append_getElem (by rw [List.length_map]; omega), HZ.out]
          congr 1
          simp [show k < s.length by omega])
        clear hcz0
        go_wp2_with (first
         | (at_builtin
            refine wpList_append_rd rfl (.tmp 60) (.tmp 66) _ rfl w3.heap.size 4 _ 1 1 Try.underlying26 info_bool rfl (by decide) (.slice Ao k co) k _ rfl (HO.out.alloc _) _ _ 1 1 (cB [!z]) rfl (lit_at (heap_alloc_new _ _)) (cB_one _) (by unfold maxLen; omega) (by omega) (by simp; omega) ?_
            intro v6 w6 hown hgr hat
            obtain ⟨A6, c6, hv6, ho6⟩ := Ow.of_own hown
            subst hv6
            have HO6 : Hid (w6.ownsRow w3.heap.size 4 1 (.slice A6 (k + 1) c6) (k + 1) (cB ((s.map (!·)).take (k + 1)))) := Lib.hid (by rw [HS.out, cB_app]; exact hown)
            have HA6 : Hid (w6.ownsRow w3.heap.size 4 1 (.slice Aa k ca) k (cB (List.replicate k true))) := Lib.hid ((HA.out.alloc _).kept hgr (own_apartB HD.out))
            have HB6 : Hid (Below w3.heap.size w3 w6) := Lib.hid (below_grown (HBB.out.alloc hzw _) hgr (own_block HO.out) (by simp; omega))
            have HD6 : Hid (∀ g, Value.ownBlock (.slice A6 (k + 1) c6) = some g → Value.ownBlock (.slice Aa k ca) ≠ some g) := Lib.hid (own_farB HD.out hat (fun g hg => by rw [World.size_alloc]; have := own_ltB HA.out hg; omega))
            have z6 := HB6.out.size
            clear hown hgr hat ho6)
         | (at_builtin
            refine wpList_append_rd rfl (.tmp 68) (.tmp 69) _ rfl w3.heap.size 4 _ 1 1 Try.underlying26 info_bool rfl (by decide) (.slice Aa k ca) k _ rfl (HA6.out.alloc _) _ _ 1 1 (cB [true]) rfl (lit_at (heap_alloc_new _ _)) (cB_one _) (by unfold maxLen; omega) (by omega) (by simp; omega) ?_
            intro v7 w7 hown hgr hat
            obtain ⟨A7, c7, hv7, ho7⟩ := Ow.of_own hown
            subst hv7
            have HA7 : Hid (w7.ownsRow w3.heap.size 4 1 (.slice A7 (k + 1) c7) (k + 1) (cB (List.replicate (k + 1) true))) := Lib.hid (by rw [List.replicate_succ', cB_app]; exact hown)
            have HO7 : Hid (w7.ownsRow w3.heap.size 4 1 (.slice A6 (k + 1) c6) (k + 1) (cB ((s.map (!·)).take (k + 1)))) := Lib.hid ((HO6.out.alloc _).kept hgr (own_apartB (fun g h1 h2 => HD6.out g h2 h1)))
            have HB7 : Hid (Below w3.heap.size w3 w7) := Lib.hid (below_grown (HB6.out.alloc z6 _) hgr (own_block HA6.out) (by simp; omega))
            have HD7 : Hid (∀ g, Value.ownBlock (.slice A6 (k + 1) c6) = some g → Value.ownBlock (.slice A7 (k + 1) c7) ≠ some g) := Lib.hid (fun g h1 h2 => own_farB (fun g h3 h4 => HD6.out g h4 h3) hat (fun g hg => by rw [World.size_alloc]; have := own_ltB HO6.out hg; omega) g h2 h1)
            clear hown hgr hat ho7))
        go_roundw
        case rel => exact ⟨k + 1, A6, c6, A7, c7, by omega, by go_num, rfl, rfl, HO7, HA7, HD7, HB7⟩
        case measure => simp [intOf] <;> omega
      · obtain rfl : k = ns := by omega
        have HO_o := Lib.hid (done_b HO.out (by omega)).1
        have HO_a := Lib.hid (done_b HA.out (by omega)).1
        replace HO_t := Lib.hid (HO_t.out.below HBB.out (by omega))
        replace HB := Lib.hid (HB.out.trans (HBB.out.mono (by omega)))
        have zw := HBB.out.size
        have e1 : (s.map (!·)).take k = s.map (!·) := List.take_of_length_le (by rw [List.length_map]; omega)
        have e2 : List.replicate k true = List.replicate s.length true := by rw [hls]
        rw [e1] at HO_o
        rw [e2] at HO_a
        obtain ⟨hB1, hB2, hz, hx, hy⟩ := HQ.out
        have HB1 := Lib.hid hB1
        have HB2 := Lib.hid hB2
        obtain ⟨X, hX⟩ : ∃ X, Hid (answV t s = X) := ⟨_, Lib.hid rfl⟩
        obtain ⟨Y, hY⟩ : ∃ Y, Hid (answV t (s.map (!·)) = Y) := ⟨_, Lib.hid rfl⟩
        obtain ⟨Z, hZ⟩ : ∃ Z, Hid (answV t (List.replicate s.length true) = Z) := ⟨_, Lib.hid rfl⟩
        rw [hX.out, hY.out, hZ.out] at hz
        rw [hX.out] at hx
        rw [hY.out] at hy
        rw [hX.out]
        have iw : IntKind.i64.wrap (X + Y) = X + Y := IntWalk.i64_in _ (by omega)
        have im : (X + Y).tmod 113 = Z := by rw [Int.tmod_eq_emod_of_nonneg (by omega)]; exact hz
        have iz : IntKind.i64.wrap Z = Z := IntWalk.i64_in _ (by omega)
        clear hB1 hB2 hz hx hy e1 e2 HBB HO HA HD
        go_wp2_with fail
        refine (X_i_PairAnswer _ _ t (s.map (!·)) _ (HO_t.out.rd.more (by omega)) (HO_o.out.rd.more (by omega)) HO_t.out.small HO_o.out.small).mono ?_
        rintro e w4 ⟨rfl, hb⟩
        have z4 : wr.heap.size ≤ w4.heap.size := hb.size
        replace HO_t := Lib.hid (HO_t.out.below hb (by omega))
        replace HO_o := Lib.hid (HO_o.out.below hb (by omega))
        replace HO_a := Lib.hid (HO_a.out.below hb (by omega))
        replace HB := Lib.hid (HB.out.trans (hb.mono (by omega)))
        clear hb
        rw [hY.out, HB1.out]
        go_wp2_with fail
        refine (X_i_PairAnswer _ _ t (List.replicate s.length true) _ (HO_t.out.rd.more (by omega)) (HO_a.out.rd.more (by omega)) HO_t.out.small HO_a.out.small).mono ?_
        rintro e w5 ⟨rfl, hb⟩
        have z5 : w4.heap.size ≤ w5.heap.size := hb.size
        replace HO_t := Lib.hid (HO_t.out.below hb (by omega))
        replace HO_o := Lib.hid (HO_o.out.below hb (by omega))
        replace HO_a := Lib.hid (HO_a.out.below hb (by omega))
        replace HB := Lib.hid (HB.out.trans (hb.mono (by omega)))
        clear hb
        rw [hZ.out, HB2.out]
        go_wp2
        go_ret
        exact ⟨rfl, HB.out⟩
  · have h3 : (1048576 : Int) < (n : Int) := by omega
    go_enter Try.func12, Try.ntmps12
    go_wp2
    go_ret
    exact ⟨rfl, Below.refl _ _⟩
end Go.Proofs.Ytbabkaofhhaneaa

/- P69, P70, P71, P72: the laws' walks. Made by tools/plain/p12.py. -/
namespace Go.Proofs.Ytbabkaofhhaneaa
open Go.RowKit
set_option maxRecDepth 100000


set_option maxHeartbeats 4000000 in
theorem P72_walk (A : Option Addr) (n c : Nat) (bs : List Int) (A' : Option Addr) (n' c' : Nat) (bs' : List Int) (w : World) (h : Rd w w.heap.size 1 A n (cU bs)) (hby : Byt bs) (hc : n ≤ c) (hm : n ≤ 9223372036854775807) (h' : Rd w w.heap.size 1 A' n' (cU bs')) (hby' : Byt bs') (_hc' : n' ≤ c') (hm' : n' ≤ 9223372036854775807) :
    Calls Try.prog 14 #[.slice A n c, .slice A' n' c'] w fun e w' => e = .returned (.bool true) ∧ Below w.heap.size w w' := by
  by_cases hn : 1048576 < n
  · have h3 : (1048576 : Int) < (n : Int) := by omega
    go_enter Try.func14, Try.ntmps14
    go_wp2
    go_ret
    exact ⟨rfl, Below.refl _ _⟩
  have h3 : ¬ (1048576 : Int) < (n : Int) := by omega
  by_cases hn' : 1048576 < n'
  · have h4 : (1048576 : Int) < (n' : Int) := by omega
    go_enter Try.func14, Try.ntmps14
    go_wp2
    go_ret
    exact ⟨rfl, Below.refl _ _⟩
  have h4 : ¬ (1048576 : Int) < (n' : Int) := by omega
  replace hn : n ≤ 1048576 := by omega
  have H := Lib.hid h
  have H' := Lib.hid h'
  clear h h'
  go_enter Try.func14, Try.ntmps14
  go_wp2_with fail
  refine (d_DrawPairAnswer _ _ _ _ _ H.out hby hn hc).mono ?_
  rintro e w1 ⟨vt, t, vs, s, m0, rfl, zm0, zm1, h_t, h_s, hb⟩
  have z1 : w.heap.size ≤ w1.heap.size := hb.size
  have HB := Lib.hid hb
  have HO_t := Lib.hid h_t
  have HO_s := Lib.hid h_s
  clear hb h_t h_s
  go_wp2_with fail
  refine (X_i_PairAnswer _ _ t s _ (HO_t.out.rd.more (by omega)) (HO_s.out.rd.more (by omega)) HO_t.out.small HO_s.out.small).mono ?_
  rintro e w2 ⟨rfl, hb⟩
  have z2 : w1.heap.size ≤ w2.heap.size := hb.size
  replace HO_t := Lib.hid (HO_t.out.below hb (by omega))
  replace HO_s := Lib.hid (HO_s.out.below hb (by omega))
  replace HB := Lib.hid (HB.out.trans (hb.mono (by omega)))
  clear hb
  go_wp2_with fail
  refine (X_s_PairAnswer _ _ t s _ (HO_t.out.rd.more (by omega)) (HO_s.out.rd.more (by omega)) HO_t.out.small HO_s.out.small).mono ?_
  rintro e w3 ⟨rfl, hb⟩
  have z3 : w2.heap.size ≤ w3.heap.size := hb.size
  replace HO_t := Lib.hid (HO_t.out.below hb (by omega))
  replace HO_s := Lib.hid (HO_s.out.below hb (by omega))
  replace HB := Lib.hid (HB.out.trans (hb.mono (by omega)))
  clear hb
  cases hB : answB t s
  · go_wp2
    go_ret
    exact ⟨rfl, HB.out⟩
  have HBT := Lib.hid hB
  clear hB
  by_cases hn0 : n' = 0
  · have hz0 : ((n' : Int) == 0) = true := by rw [hn0]; rfl
    go_wp2
    go_ret
    exact ⟨rfl, HB.out⟩
  have hnz : ((n' : Int) == 0) = false := by rw [beq_eq_false_iff_ne]; omega
  obtain ⟨am, zb, hAm, hab, hcb0, zb0, zb1⟩ := H'.out.byteAt hby' (show 0 < n' by omega)
  subst hAm
  have hcb := (HB.out.cell (p := am.add 0) (by rw [add_block]; exact hab)).trans hcb0
  rw [show am.add 0 = am by simp [Addr.add]] at hcb
  obtain ⟨_, At, nt, ct, hvt, rt⟩ := HO_t.out
  have hlt := rt.len
  clear rt
  subst hvt
  have hnt : 1 ≤ nt ∧ nt ≤ 16 := by
    have := HBT.out
    unfold answB tabB at this
    simp only [Bool.and_eq_true, inB_iff] at this
    omega
  obtain ⟨b, rfl⟩ := Int.eq_ofNat_of_zero_le zb0
  obtain ⟨k, hk⟩ : ∃ k, b % nt = k := ⟨_, rfl⟩
  have hkn : k < nt := by rw [← hk]; exact Nat.mod_lt _ (by omega)
  have iz : IntKind.i64.wrap (b : Int) = b := IntWalk.i64_in _ (by omega)
  have im : ((b : Int)).tmod (nt : Int) = (k : Int) := by rw [Int.tmod_eq_emod_of_nonneg (by omega), ← hk]; rfl
  have ik : IntKind.i64.wrap (k : Int) = k := IntWalk.i64_in _ (by omega)
  have nz : ((nt : Int) == 0) = false := by rw [beq_eq_false_iff_ne]; omega
  have nz2 : ¬ (nt : Int) = 0 := by omega
  have nz3 : ¬ nt = 0 := by omega
  have HQ := Lib.hid (pair_found (i := k) HBT.out (by omega))
  clear hcb0 hk
  go_wp2_with fail
  refine (X_i_PairAsk _ s (k : Int) _ (HO_s.out.rd.more (by omega)) HO_s.out.small).mono ?_
  rintro e w4 ⟨x0, x1, m1, rfl, zm2, zm3, h_x0, h_x1, hb⟩
  have z4 : w3.heap.size ≤ w4.heap.size := hb.size
  replace HO_t := Lib.hid (HO_t.out.below hb (by omega))
  replace HO_s := Lib.hid (HO_s.out.below hb (by omega))
  replace HB := Lib.hid (HB.out.trans (hb.mono (by omega)))
  have HO_x0 := Lib.hid h_x0
  have HO_x1 := Lib.hid h_x1
  clear hb h_x0 h_x1
  have e2 : R_PairAsk_2 s (k : Int) = true := HQ.out.1
  rw [e2]
  rw [HQ.out.2.1] at HO_x0
  clear hcb iz im e2
  go_wp2_with fail
  refine (X_i_PairAnswer _ _ t s _ (HO_t.out.rd.more (by omega)) (HO_x0.out.rd.more (by omega)) HO_t.out.small HO_x0.out.small).mono ?_
  rintro e w5 ⟨rfl, hb⟩
  have z5 : w4.heap.size ≤ w5.heap.size := hb.size
  replace HO_t := Lib.hid (HO_t.out.below hb (by omega))
  replace HO_s := Lib.hid (HO_s.out.below hb (by omega))
  replace HO_x0 := Lib.hid (HO_x0.out.below hb (by omega))
  replace HO_x1 := Lib.hid (HO_x1.out.below hb (by omega))
  replace HB := Lib.hid (HB.out.trans (hb.mono (by omega)))
  clear hb
  rw [HBT.out]
  go_wp2_with fail
  refine (X_i_PairAnswer _ _ t (R_PairAsk_1 s k) _ (HO_t.out.rd.more (by omega)) (HO_x1.out.rd.more (by omega)) HO_t.out.small HO_x1.out.small).mono ?_
  rintro e w6 ⟨rfl, hb⟩
  have z6 : w5.heap.size ≤ w6.heap.size := hb.size
  replace HO_t := Lib.hid (HO_t.out.below hb (by omega))
  replace HO_s := Lib.hid (HO_s.out.below hb (by omega))
  replace HO_x0 := Lib.hid (HO_x0.out.below hb (by omega))
  replace HO_x1 := Lib.hid (HO_x1.out.below hb (by omega))
  replace HB := Lib.hid (HB.out.trans (hb.mono (by omega)))
  clear hb
  rw [HQ.out.2.2.1]
  go_wp2_with fail
  refine (X_i_PairTake _ s _ _ (k : Int) _ (HO_x0.out.rd.more (by omega)) HO_x0.out.small).mono ?_
  rintro e w7 ⟨rfl, hb⟩
  have z7 : w6.heap.size ≤ w7.heap.size := hb.size
  replace HO_t := Lib.hid (HO_t.out.below hb (by omega))
  replace HO_s := Lib.hid (HO_s.out.below hb (by omega))
  replace HO_x0 := Lib.hid (HO_x0.out.below hb (by omega))
  replace HO_x1 := Lib.hid (HO_x1.out.below hb (by omega))
  replace HB := Lib.hid (HB.out.trans (hb.mono (by omega)))
  clear hb
  rw [HQ.out.2.2.2.1, HQ.out.2.2.2.2]
  obtain ⟨_, At, nt, ct, hvt, rt⟩ := HO_t.out
  injection hvt with g1 g2 g3
  subst g1 g2 g3
  obtain ⟨at', x, hAt, _, hcx, HX⟩ := rt.rd.intAt hkn
  subst hAt
  rw [← HX.out]
  have j0 : (0 : Int) ≤ (k : Int) := by omega
  have j1 : (k : Int) < (nt : Int) := by omega
  clear rt HX
  go_wp2
  go_ret
  exact ⟨rfl, HB.out⟩
end Go.Proofs.Ytbabkaofhhaneaa

/- An argument of type []byte, opened. -/
namespace Go.Proofs.Ytbabkaofhhaneaa
open Go.RowKit
set_option maxRecDepth 100000

section
open Go.ChangeShapes Go.WideShapes Go.ChangeAt Go.RowKit
/-- an argument of type []byte: a list of bytes that reads -/
theorem open_byteS {H : Type} {enc : TypeId × Value → H} {P : Program} {w : World} {b0 : Nat} {t e : TypeId} {r : Reach} {v : Value} {d : DataW H} {ps : List MemPlace} (ht : P.underlying t = some (.slice e)) (he : P.underlying e = some (.int .u8)) (hc : P.cellsOf e = 1)
    (hv : Value.okWide P w r b0 t v) (h : DataW.Trod enc P w 0 (fun _ => true) true t v d ps) :
    ∃ A n c zs, v = .slice A n c ∧ n ≤ 9223372036854775807 ∧ n ≤ c ∧ Rd w w.heap.size 1 A n (cU zs) ∧ Byt zs := by
  obtain ⟨A, n, c, rfl⟩ : ∃ A n c, v = .slice A n c := by
    cases v <;> simp [Value.okWide, ht, Cell.okWide, Cell.ok] at hv
    exact ⟨_, _, _, rfl⟩
  obtain ⟨fuel, hf⟩ := h
  rcases open_ints ht he hc hf with ⟨hn, _⟩ | ⟨a, len, cap, zs, hs, _, hlc, hm, hlen, _, hcell, hwz⟩
  · simp [Value.cells] at hn
    obtain ⟨rfl, rfl, rfl⟩ := hn
    exact ⟨_, _, _, [], rfl, by omega, Nat.le_refl _, ⟨by simp [cU], fun h => by omega⟩, fun j => by simp⟩
  · simp [Value.cells] at hs
    obtain ⟨rfl, rfl, rfl⟩ := hs
    simp only [if_true] at hlen
    unfold maxLen at hm
    have hby : Byt zs := fun j => by
      by_cases hj : j < zs.length
      · have hw := hwz zs[j] (List.getElem_mem hj)
        simp only [Lit.wf, IntKind.min, IntKind.max, IntKind.signed, IntKind.bits, Bool.and_eq_true] at hw
        simp [hj]
        simp at hw
        omega
      · simp [List.getElem?_eq_none (show zs.length ≤ j by omega)]
    refine ⟨_, _, _, zs.take n, rfl, by omega, by omega, ⟨by rw [cU_length, List.length_take]; omega, fun hn => ⟨a, rfl, ?_, fun j u hu => ?_⟩⟩, hby.take _⟩
    · have := hcell 0 (by omega)
      exact World.block_lt_of_cell? (a := a.add 0) _ this
    · have hj : j < n := by
        have := (List.getElem?_eq_some_iff.1 hu).1
        rw [cU_length, List.length_take] at this; omega
      simp only [cU, List.map_take, List.getElem?_take, if_pos hj, List.getElem?_map, List.getElem?_eq_getElem (show j < zs.length by omega), Option.map_some, Option.some.injEq] at hu
      rw [← hu, hcell j (by omega)]
      simp [show j < zs.length by omega]
end
end Go.Proofs.Ytbabkaofhhaneaa
