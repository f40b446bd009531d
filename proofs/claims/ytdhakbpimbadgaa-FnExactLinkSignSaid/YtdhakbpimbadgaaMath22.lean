/- Chapter 16: rings that sign: what both sides answer. No word of a program. -/
import Derived.Test.YtdhakbpimbadgaaMath21
namespace Go.Proofs.Ytdhakbpimbadgaa
set_option maxRecDepth 100000

def mixF (m v : Int) : Int := (m * m + 31 * m + v + 1) % 65521
def mixB (l : List Int) : Bool := l.all fun v => decide (0 ≤ v ∧ v ≤ 226)
def mixL (l : List Int) : Int := l.foldl mixF 7
def mixV (l : List Int) : Int := if mixB l = true then mixL l % 113 else -1
theorem mixF_bd (m v : Int) : 0 ≤ mixF m v ∧ mixF m v ≤ 65520 := by unfold mixF; omega
theorem mixL_snoc (l : List Int) (v : Int) : mixL (l ++ [v]) = mixF (mixL l) v := by simp [mixL]
theorem mixL_bd (l : List Int) : 0 ≤ mixL l ∧ mixL l ≤ 65520 := by
  rcases List.eq_nil_or_concat l with rfl | ⟨t, v, rfl⟩
  · simp [mixL]
  · rw [List.concat_eq_append, mixL_snoc]; exact mixF_bd _ _
theorem mixB_append (a b : List Int) : mixB (a ++ b) = (mixB a && mixB b) := by simp [mixB]
theorem mixB_at {l : List Int} (h : mixB l = true) {k : Nat} (hk : k < l.length) : 0 ≤ l.getD k 0 ∧ l.getD k 0 ≤ 226 := by
  unfold mixB at h
  rw [List.all_eq_true] at h
  have := h _ (List.getElem_mem hk)
  simp only [decide_eq_true_eq] at this
  rw [List.getD_eq_getElem?_getD, List.getElem?_eq_getElem hk]; simpa using this
theorem mixB_nums {l : List Int} (h : numsB l = true) : mixB l = true := by
  unfold mixB; unfold numsB at h
  rw [List.all_eq_true] at h ⊢
  intro v hv
  have := (numB_iff v).1 (h v hv)
  simp only [decide_eq_true_eq]; omega
theorem mixB_els {l : List Int} (h : elsB l = true) : mixB l = true := by
  unfold mixB; unfold elsB at h
  rw [List.all_eq_true] at h ⊢
  intro v hv
  have := elB_range (h v hv)
  simp only [decide_eq_true_eq]; omega

def msgB (m : List Int) : Bool := decide (m.length ≤ 8) && numsB m
def comsP (l : List Pf) : List Int := l.map (·.1)
def rchal (ks msg : List Int) (l : List Pf) : Int := mixL (msg ++ ks ++ comsP l) % 113
theorem rchal_bd (ks msg : List Int) (l : List Pf) : 0 ≤ rchal ks msg l ∧ rchal ks msg l ≤ 112 := by unfold rchal; omega
theorem coms_make (ks : List Int) (i : Nat) (s c d : Int) (tp : List Int) : comsP (emakeL ks i s c tp) = comsP (emakeL ks i s d tp) := by
  unfold comsP emakeL; rw [List.map_set, List.map_set]; rfl
def rsignB (ks : List Int) (i s : Int) (msg tp : List Int) : Bool := emakeB ks i s 0 tp && msgB msg
def R_RingSign_1 (ks : List Int) (i s : Int) (msg tp : List Int) : Bool := rsignB ks i s msg tp
def R_RingSign_0 (ks : List Int) (i s : Int) (msg tp : List Int) : List Pf := if rsignB ks i s msg tp = true then emakeL ks i.toNat s (rchal ks msg (emakeL ks i.toNat s 0 tp)) tp else []
def rgoodB (ks msg : List Int) (l : List Pf) : Bool := msgB msg && egoodB ks (rchal ks msg l) l

/-! linked -/
def lotherT (ks : List Int) (tag : Int) (tp : List Int) (j : Nat) : Tw :=
  (backI 4 (ks.getD j 0) (tp.getD (2 * j + 1) 0) (tp.getD (2 * j) 0), backI 9 tag (tp.getD (2 * j + 1) 0) (tp.getD (2 * j) 0), tp.getD (2 * j) 0, tp.getD (2 * j + 1) 0)
def lownT (s n c : Int) : Tw := (powI 4 n 227, powI 9 n 227, c, (n + c * s) % 113)
def lmakeL (ks : List Int) (tag : Int) (i : Nat) (s ch : Int) (tp : List Int) : List Tw := ((List.range ks.length).map (lotherT ks tag tp)).set i (lownT s (tp.getD (2 * i) 0) (restK tp i ch ks.length))
theorem lmakeL_length (ks : List Int) (tag : Int) (i : Nat) (s ch : Int) (tp : List Int) : (lmakeL ks tag i s ch tp).length = ks.length := by simp [lmakeL]
/-- the sum of the others' challenges -/
def othK (tp : List Int) (i : Nat) : Nat → Int
  | 0 => 0
  | k + 1 => if k = i then othK tp i k else (othK tp i k + tp.getD (2 * k) 0) % 113
theorem othK_bd (tp : List Int) (i k : Nat) : 0 ≤ othK tp i k ∧ othK tp i k ≤ 112 := by
  induction k with
  | zero => simp [othK]
  | succ k ih => unfold othK; split <;> omega
theorem rest_oth {tp : List Int} {i : Nat} {ch : Int} (h : 0 ≤ ch ∧ ch ≤ 112) (k : Nat) : restK tp i ch k = (ch - othK tp i k) % 113 := by
  induction k with
  | zero => simp only [restK, othK]; omega
  | succ k ih => unfold restK othK; split <;> omega
def comsT (l : List Tw) : List Int := l.flatMap fun t => [t.1, t.2.1]
def lchal (ks msg : List Int) (tag : Int) (l : List Tw) : Int := mixL (msg ++ ks ++ [tag] ++ comsT l) % 113
theorem lchal_bd (ks msg : List Int) (tag : Int) (l : List Tw) : 0 ≤ lchal ks msg tag l ∧ lchal ks msg tag l ≤ 112 := by unfold lchal; omega
def twC (t : Tw) : List Int := [t.1, t.2.1]
theorem comsT_set (l : List Tw) (i : Nat) (a b : Tw) (h : twC a = twC b) : comsT (l.set i a) = comsT (l.set i b) := by
  induction l generalizing i with
  | nil => rfl
  | cons t l ih =>
    cases i with
    | zero => simp only [List.set_cons_zero, comsT, List.flatMap_cons]; rw [show [a.1, a.2.1] = [b.1, b.2.1] from h]
    | succ i => have := ih i; simp only [List.set_cons_succ, comsT, List.flatMap_cons] at this ⊢; rw [this]
theorem lcoms_make (ks : List Int) (tag : Int) (i : Nat) (s c d : Int) (tp : List Int) : comsT (lmakeL ks tag i s c tp) = comsT (lmakeL ks tag i s d tp) := by
  unfold lmakeL; exact comsT_set _ _ _ _ rfl
def lsignB (ks : List Int) (i s : Int) (msg tp : List Int) : Bool := emakeB ks i s 0 tp && msgB msg
def R_LinkSign_2 (ks : List Int) (i s : Int) (msg tp : List Int) : Bool := lsignB ks i s msg tp
def lsignT (ks : List Int) (i s : Int) (msg tp : List Int) : Int := if lsignB ks i s msg tp = true then powI 9 s 227 else 0
def R_LinkSign_1 (ks : List Int) (i s : Int) (msg tp : List Int) : List Tw :=
  if lsignB ks i s msg tp = true then lmakeL ks (powI 9 s 227) i.toNat s (lchal ks msg (powI 9 s 227) (lmakeL ks (powI 9 s 227) i.toNat s 0 tp)) tp else []
def twGood (k tag : Int) (t : Tw) : Bool := twinB 4 9 k tag t.1 t.2.1 t.2.2.1 t.2.2.2
def lgoodsK (ks : List Int) (tag : Int) (l : List Tw) : Nat → Bool
  | 0 => true
  | k + 1 => lgoodsK ks tag l k && twGood (ks.getD k 0) tag (l.getD k (0, 0, 0, 0))
def lchalK (l : List Tw) : Nat → Int
  | 0 => 0
  | k + 1 => (lchalK l k + (l.getD k (0, 0, 0, 0)).2.2.1) % 113
theorem lchalK_bd (l : List Tw) (k : Nat) : 0 ≤ lchalK l k ∧ lchalK l k ≤ 112 := by
  induction k with
  | zero => simp [lchalK]
  | succ k ih => unfold lchalK; omega
theorem lgoodsK_at {ks : List Int} {tag : Int} {l : List Tw} {n k : Nat} (h : lgoodsK ks tag l n = true) (hk : k < n) : twGood (ks.getD k 0) tag (l.getD k (0, 0, 0, 0)) = true := by
  induction n with
  | zero => omega
  | succ n ih =>
    simp only [lgoodsK, Bool.and_eq_true] at h
    by_cases e : k = n
    · subst e; exact h.2
    · exact ih h.1 (by omega)
theorem lgoodsK_no {ks : List Int} {tag : Int} {l : List Tw} {n k : Nat} (hk : k < n) (h : twGood (ks.getD k 0) tag (l.getD k (0, 0, 0, 0)) = false) : lgoodsK ks tag l n = false := by
  cases e : lgoodsK ks tag l n
  · rfl
  · rw [lgoodsK_at e hk] at h; cases h
theorem twGood_nums {k tag : Int} {t : Tw} (h : twGood k tag t = true) : (0 ≤ t.1 ∧ t.1 ≤ 226) ∧ (0 ≤ t.2.1 ∧ t.2.1 ≤ 226) ∧ (0 ≤ t.2.2.1 ∧ t.2.2.1 ≤ 112) ∧ (0 ≤ t.2.2.2 ∧ t.2.2.2 ≤ 112) := by
  simp only [twGood, twinB, twinFB, Bool.and_eq_true, decide_eq_true_eq] at h
  obtain ⟨⟨_, _, h3, h4⟩, h5, h6⟩ := h
  exact ⟨by rw [h5]; exact backI_bd _ _ _ _, by rw [h6]; exact backI_bd _ _ _ _, (numB_iff _).1 h3, (numB_iff _).1 h4⟩
def lgoodB (ks msg : List Int) (tag : Int) (l : List Tw) : Bool :=
  keysB ks && (msgB msg && (elB tag && (decide (l.length = ks.length) && (lgoodsK ks tag l ks.length && decide (lchalK l ks.length = lchal ks msg tag l)))))
def ltapeJ (l : List Tw) (i : Nat) (s : Int) (j : Nat) : List Int := if j = i then [((l.getD j (0, 0, 0, 0)).2.2.2 - (l.getD j (0, 0, 0, 0)).2.2.1 * s % 113) % 113, 0] else [(l.getD j (0, 0, 0, 0)).2.2.1, (l.getD j (0, 0, 0, 0)).2.2.2]
def ltapeL (l : List Tw) (i : Nat) (s : Int) (n : Nat) : List Int := (List.range n).flatMap (ltapeJ l i s)
theorem ltapeL_succ (l : List Tw) (i : Nat) (s : Int) (n : Nat) : ltapeL l i s (n + 1) = ltapeL l i s n ++ ltapeJ l i s n := by simp [ltapeL, List.range_succ]
theorem ltapeL_length (l : List Tw) (i : Nat) (s : Int) (n : Nat) : (ltapeL l i s n).length = 2 * n := by
  induction n with
  | zero => rfl
  | succ n ih => rw [ltapeL_succ, List.length_append, ih]; unfold ltapeJ; split <;> simp <;> omega
def ltapeB (ks msg : List Int) (tag : Int) (l : List Tw) (i s : Int) : Bool := lgoodB ks msg tag l && (ownB ks i s && decide (powI 9 s 227 = tag))
def R_LinkTape_1 (ks msg : List Int) (tag : Int) (l : List Tw) (i s : Int) : Bool := ltapeB ks msg tag l i s
def R_LinkTape_0 (ks msg : List Int) (tag : Int) (l : List Tw) (i s : Int) : List Int := if ltapeB ks msg tag l i s = true then ltapeL l i.toNat s ks.length else []
end Go.Proofs.Ytdhakbpimbadgaa
