/- Chapter 15: the list of proofs by a tape, over the closure that feigns. Made by tools/gen15/q.py. -/
import Derived.Test.YtdhakbpimbadgaaWalk15h
import Derived.Test.YtdhakbpimbadgaaFProof
import Derived.Stop.RegionWithIn
namespace Go.Proofs.Ytdhakbpimbadgaa
open Go.RowKit Go.Shelf
set_option maxRecDepth 100000
attribute [local go_sem] Oper.semAt_some

/-- the list behind the rounds, and what is left of the challenge -/
def lstP (ks tp : List Int) (n : Nat) (pre : List (Fin n)) : List Pf := pre.foldl (fun L x => L.set x.1 (otherP ks tp x.1)) (List.replicate n (0, 0, 0))
def resP (tp : List Int) (n : Nat) (ch : Int) (pre : List (Fin n)) : Int := pre.foldl (fun c x => (c - tp.getD (2 * x.1) 0) % 113) ch
theorem lstP_snoc (ks tp : List Int) (n : Nat) (pre : List (Fin n)) (x : Fin n) : lstP ks tp n (pre ++ [x]) = (lstP ks tp n pre).set x.1 (otherP ks tp x.1) := by unfold lstP; rw [List.foldl_append]; rfl
theorem resP_snoc (tp : List Int) (n : Nat) (ch : Int) (pre : List (Fin n)) (x : Fin n) : resP tp n ch (pre ++ [x]) = (resP tp n ch pre - tp.getD (2 * x.1) 0) % 113 := by unfold resP; rw [List.foldl_append]; rfl
theorem lstP_len (ks tp : List Int) (n : Nat) (pre : List (Fin n)) : (lstP ks tp n pre).length = n := by
  suffices h : ∀ (l : List (Fin n)) (L : List Pf), L.length = n → (l.foldl (fun L x => L.set x.1 (otherP ks tp x.1)) L).length = n from h _ _ (by simp)
  intro l
  induction l with
  | nil => exact fun L h => h
  | cons x t ih => exact fun L h => ih _ (by rw [List.length_set]; exact h)
theorem resP_bd (tp : List Int) (n : Nat) (ch : Int) (h0 : 0 ≤ ch ∧ ch ≤ 112) (pre : List (Fin n)) : 0 ≤ resP tp n ch pre ∧ resP tp n ch pre ≤ 112 := by
  suffices h : ∀ (l : List (Fin n)) (c : Int), 0 ≤ c ∧ c ≤ 112 → 0 ≤ l.foldl (fun c x => (c - tp.getD (2 * x.1) 0) % 113) c ∧ l.foldl (fun c x => (c - tp.getD (2 * x.1) 0) % 113) c ≤ 112 from h _ _ h0
  intro l
  induction l with
  | nil => exact fun c h => h
  | cons x t ih => exact fun c h => ih _ (by dsimp only; omega)
theorem resP_all (tp : List Int) (n q : Nat) (ch : Int) {k : Nat} (hk : k ≤ n) : resP tp n ch (othF n q k) = restK tp q ch k := by
  induction k with
  | zero => rfl
  | succ k ih =>
    by_cases e : k = q
    · subst e
      rw [othF_same, ih (by omega)]
      conv => rhs; unfold restK
      rw [if_pos rfl]
    · rw [othF_succ n q k (by omega) e, resP_snoc, ih (by omega)]
      conv => rhs; unfold restK
      rw [if_neg e]
theorem lstP_get (ks tp : List Int) (n q : Nat) {k : Nat} (hk : k ≤ n) (j : Nat) : (lstP ks tp n (othF n q k))[j]? = if j < k ∧ j ≠ q then some (otherP ks tp j) else if j < n then some (0, 0, 0) else none := by
  induction k with
  | zero =>
    show (List.replicate n ((0, 0, 0) : Pf))[j]? = _
    rw [List.getElem?_replicate, if_neg (by omega : ¬ (j < 0 ∧ j ≠ q))]
  | succ k ih =>
    by_cases e : k = q
    · subst e
      rw [othF_same, ih (by omega)]
      by_cases h : j < k ∧ j ≠ k
      · rw [if_pos h, if_pos ⟨by omega, h.2⟩]
      · rw [if_neg h, if_neg (show ¬ (j < k + 1 ∧ j ≠ k) by omega)]
    · rw [othF_succ n q k (by omega) e, lstP_snoc, List.getElem?_set, ih (by omega)]
      by_cases h : k = j
      · subst h
        rw [if_pos rfl, if_pos (by rw [lstP_len]; omega), if_pos (by omega)]
      · rw [if_neg h]
        by_cases h2 : j < k ∧ j ≠ q
        · rw [if_pos h2, if_pos (by omega)]
        · rw [if_neg h2, if_neg (show ¬ (j < k + 1 ∧ j ≠ q) by omega)]
theorem lstP_all (ks tp : List Int) (n q : Nat) (v : Pf) : (lstP ks tp n (othF n q n)).set q v = ((List.range n).map (otherP ks tp)).set q v := by
  apply List.ext_getElem?
  intro j
  rw [List.getElem?_set, List.getElem?_set, lstP_len, List.length_map, List.length_range, lstP_get ks tp n q (Nat.le_refl _)]
  by_cases h : q = j
  · rw [if_pos h, if_pos h]
  · rw [if_neg h, if_neg h]
    by_cases h2 : j < n
    · rw [if_pos ⟨h2, fun e => h e.symm⟩]; simp [h2]
    · rw [if_neg (show ¬ (j < n ∧ j ≠ q) by omega), if_neg h2, List.getElem?_eq_none (by rw [List.length_map, List.length_range]; omega)]
theorem enc_set3 {W : World} {B k : Nat} {L : List Pf} (h : Bx W B (cProof L).toArray 54) (x y z : Int) :
    Bx (((W.setCell ⟨B, k * 3, none⟩ (.int .i64 x)).setCell ⟨B, k * 3 + 1, none⟩ (.int .i64 y)).setCell ⟨B, k * 3 + 2, none⟩ (.int .i64 z)) B (cProof (L.set k (x, y, z))).toArray 54 := by
  have h3 := ((h.set (k * 3) (.int .i64 x)).set (k * 3 + 1) (.int .i64 y)).set (k * 3 + 2) (.int .i64 z)
  rw [List.setIfInBounds_toArray, List.setIfInBounds_toArray, List.setIfInBounds_toArray, cProof_set] at h3
  exact h3
theorem bx_from {α : Type} (B b : Nat) (cs : α → Array Value) (e : TypeId) : OwnFrom B (fun s W => Bx W b (cs s) e) := by
  intro s X Y row h hg hr
  refine (hg.block b h.lt (fun e' => ?_)).trans h
  obtain ⟨_, _, ho, hc⟩ := hr b e'.symm
  rw [show X.heap[b]? = _ from h] at ho; cases ho; cases hc
theorem keeps_below {W W' : World} (h : Below W.heap.size W W') : KeepsOthers W W' := ⟨h.size, fun k _ hk _ => (h.block k (Array.getElem?_eq_some_iff.1 hk).1).trans hk⟩

theorem bx_row3 {W : World} {g k : Nat} {L : List Pf} (h : Bx W g (cProof L).toArray 54) (hk : k < L.length) :
    (∃ u, W.cell? ⟨g, k * 3, none⟩ = some u) ∧ (∃ u, W.cell? ⟨g, k * 3 + 1, none⟩ = some u) ∧ (∃ u, W.cell? ⟨g, k * 3 + 2, none⟩ = some u) ∧ ∀ j, W.frozen? ⟨g, j, none⟩ = false := by
  have hl : (cProof L).toArray.size = L.length * 3 := by rw [List.size_toArray, cProof_length]
  exact ⟨⟨_, (h.cell _).trans (Array.getElem?_eq_getElem (by omega))⟩, ⟨_, (h.cell _).trans (Array.getElem?_eq_getElem (by omega))⟩, ⟨_, (h.cell _).trans (Array.getElem?_eq_getElem (by omega))⟩, h.free⟩
/-- only the way on: a region that ends well, whatever stands behind -/
def OnlyN (Q : Exit → Act → World → Prop) : Exit → Act → World → Prop
  | .normal, a, w => Q .normal a w
  | _, _, _ => False
theorem wp_onlyN {P : Program} {c : Code} {Q : Exit → Act → World → Prop} {a : Act} {w : World} (h : c.wp P (OnlyN Q) a w) : c.wp P Q a w :=
  Code.wp_mono (fun e a w h => by cases e <;> first | exact h | exact h.elim) h
/-- the block for the rounds' deferred calls -/
def DfA (W : World) (D : Nat) : Prop := W.heap[D]? = some (.deferred (some []))
theorem DfA.below {W W' : World} {D B : Nat} (h : DfA W D) (hb : Below B W W') (hl : D < B) : DfA W' D := (hb.block D hl).trans h
theorem DfA.kept {W W' : World} {D lo hi : Nat} (h : DfA W D) (hk : Kept lo hi W W') (hl : D + 1 ≤ W.heap.size) (hd : hi ≤ D ∨ D + 1 ≤ lo) : DfA W' D := (hk.block D (by omega) (by omega)).trans h
theorem DfA.lt {W : World} {D : Nat} (h : DfA W D) : D < W.heap.size := (Array.getElem?_eq_some_iff.1 h).1
/-- a round's stores and its call -/
theorem oth_round {W w2 : World} {b k : Nat} {y z u v : Value} (hs : b + 7 ≤ W.heap.size)
    (hb2 : Below ((((W.setCell ⟨b + 1 + 1, k * 3, none⟩ y).setCell ⟨b + 1 + 1, k * 3 + 1, none⟩ z).setCell ⟨b + 1 + 1, k * 3 + 2, none⟩ u).drew).heap.size ((((W.setCell ⟨b + 1 + 1, k * 3, none⟩ y).setCell ⟨b + 1 + 1, k * 3 + 1, none⟩ z).setCell ⟨b + 1 + 1, k * 3 + 2, none⟩ u).drew) w2) :
    KeepsOthers W (w2.setCell ⟨b + 1, 0, none⟩ v) ∧ Below b W (w2.setCell ⟨b + 1, 0, none⟩ v) ∧ ∀ B cs e, B ≠ b + 1 → B ≠ b + 1 + 1 → Bx W B cs e → Bx (w2.setCell ⟨b + 1, 0, none⟩ v) B cs e := by
  have hz : ((((W.setCell ⟨b + 1 + 1, k * 3, none⟩ y).setCell ⟨b + 1 + 1, k * 3 + 1, none⟩ z).setCell ⟨b + 1 + 1, k * 3 + 2, none⟩ u).drew).heap.size = W.heap.size := by
    show (((W.setCell ⟨b + 1 + 1, k * 3, none⟩ y).setCell ⟨b + 1 + 1, k * 3 + 1, none⟩ z).setCell ⟨b + 1 + 1, k * 3 + 2, none⟩ u).heap.size = _
    rw [World.size_setCell, World.size_setCell, World.size_setCell]
  refine ⟨((((KeepsOthers.setCell W _ _).trans (KeepsOthers.setCell _ _ _)).trans (KeepsOthers.setCell _ _ _)).trans (KeepsOthers.drew _)).trans ((keeps_below hb2).trans (KeepsOthers.setCell _ _ _)), ?_, ?_⟩
  · refine Below.setCell (Below.trans (Below.drew (((((Below.refl b W).setCell (p := ⟨b + 1 + 1, k * 3, none⟩) (by simp only; omega) _).setCell (p := ⟨b + 1 + 1, k * 3 + 1, none⟩) (by simp only; omega) _).setCell (p := ⟨b + 1 + 1, k * 3 + 2, none⟩) (by simp only; omega) _))) (hb2.mono (by rw [hz]; omega))) (by simp only; omega) _
  · intro B cs e h1 h2 h
    have hlt := h.lt
    have h3 := ((h.other ⟨b + 1 + 1, k * 3, none⟩ y (by simp only; omega)).other ⟨b + 1 + 1, k * 3 + 1, none⟩ z (by simp only; omega)).other ⟨b + 1 + 1, k * 3 + 2, none⟩ u (by simp only; omega)
    refine Bx.other (Bx.below ?_ hb2 (by rw [hz]; exact hlt)) _ _ (by simp only; omega)
    exact h3
theorem stops_oth (Bk Bt Bo Bf n₀ n q m nt ct : Nat) (At : Option Addr) (ks tp : List Int) (hm : 1 ≤ m) (w0 w : World)
    (hF : ∀ W k c r, Below n₀ w0 W → k < n → 0 ≤ c → c ≤ 112 → 0 ≤ r → r ≤ 112 → Calls Try.prog 46 #[.int .i64 (k : Nat), .agg #[.int .i64 c, .int .i64 r], .pointer (some ⟨Bk, 0, none⟩)] W fun e W' => e = .returned (.agg #[.int .i64 (backI 4 (ks.getD k 0) r c), .int .i64 c, .int .i64 r]) ∧ Below W.heap.size W W')
    (hn : n ≤ 6) (hnt : nt = 2 * n) (hT : Rd w0 n₀ 1 At nt (cI tp)) (hN : numsB tp = true) (hB : OBx Bt Bo Bf (.slice At nt ct) q (.func (.func 46) #[] #[.pointer (some ⟨Bk, 0, none⟩)]) w) (hn₀ : n₀ ≤ w.heap.size) (hbel : Below n₀ w0 w) :
    SeqStopsK Fence.wide m Try.prog 111 #[.pointer (some ⟨Bt, 0, none⟩), .pointer (some ⟨Bo, 0, none⟩), .pointer (some ⟨Bf, 0, none⟩)] (fun x : Fin n => encO (x.1, otherP ks tp x.1)) (KpP n₀ (OBx Bt Bo Bf (.slice At nt ct) q (.func (.func 46) #[] #[.pointer (some ⟨Bk, 0, none⟩)]))) (fun ys => ys = othF n q n) (fun _ => True) n w := fun l J Jx W hW hJ _ hY h0 =>
  i_it_oth Bk Bt Bo Bf l n₀ n q m nt ct At ks tp hm w0 hF hn hnt hT hN J Jx W hJ hY (hB.grown hW) (Nat.le_trans hn₀ hW.size) (hbel.trans (hW.mono hn₀)) h0

set_option maxHeartbeats 1000000 in
theorem i_others (q : Nat) (v : Value) (Bk : Nat) (w : World) (hv : ∃ A n c, v = .slice A n c) :
    Calls Try.prog 89 #[.int .i64 q, v, .func (.func 46) #[] #[.pointer (some ⟨Bk, 0, none⟩)]] w fun e w' => e = .returned (.func (.func 111) #[] #[.pointer (some ⟨w.heap.size + 1, 0, none⟩), .pointer (some ⟨w.heap.size, 0, none⟩), .pointer (some ⟨w.heap.size + 1 + 1, 0, none⟩)]) ∧ ((w.alloc (.cells #[.int .i64 q] 3)).alloc (.cells #[v] 22)).alloc (.cells #[.func (.func 46) #[] #[.pointer (some ⟨Bk, 0, none⟩)]] 109) = w' := by
  obtain ⟨A, n, c, rfl⟩ := hv
  go_enter Try.func89, Try.ntmps89
  go_wp2
  go_ret
  exact ⟨rfl, rfl⟩

set_option maxHeartbeats 4000000 in
theorem i_proofsBy (Bk n q nt ct : Nat) (At : Option Addr) (ks tp : List Int) (s ch : Int) (w : World)
    (hF : ∀ W k c r, Below w.heap.size w W → k < n → 0 ≤ c → c ≤ 112 → 0 ≤ r → r ≤ 112 → Calls Try.prog 46 #[.int .i64 (k : Nat), .agg #[.int .i64 c, .int .i64 r], .pointer (some ⟨Bk, 0, none⟩)] W fun e W' => e = .returned (.agg #[.int .i64 (backI 4 (ks.getD k 0) r c), .int .i64 c, .int .i64 r]) ∧ Below W.heap.size W W')
    (hn : n ≤ 6) (hnt : nt = 2 * n) (hT : Rd w w.heap.size 1 At nt (cI tp)) (hN : numsB tp = true) (hq : q < n) (s0 : 0 ≤ s) (s1 : s ≤ 112) (c0 : 0 ≤ ch) (c1 : ch ≤ 112) :
    Calls Try.prog 45 #[.agg #[.int .i64 q, .int .i64 s], .int .i64 ch, .slice At nt ct, .func (.func 46) #[] #[.pointer (some ⟨Bk, 0, none⟩)]] w fun e w' => ∃ g, e = .returned (.slice (some ⟨g, 0, none⟩) n n) ∧ w.heap.size ≤ g ∧ Bx w' g (cProof (((List.range n).map (otherP ks tp)).set q (backI 4 (ks.getD q 0) ((tp.getD (2 * q) 0 + restK tp q ch n * s) % 113) (restK tp q ch n), restK tp q ch n, (tp.getD (2 * q) 0 + restK tp q ch n * s) % 113))).toArray 54 ∧ Below w.heap.size w w' := by
  refine (callsIn_wide (n := 9)).1 ?_
  have hquo : (nt : Int).tdiv 2 = (n : Int) := by rw [Int.tdiv_eq_ediv_of_nonneg (by omega)]; omega
  have HFF := Lib.hid hF
  have HTP := Lib.hid hT
  have HNU := Lib.hid hN
  have HNT := Lib.hid hnt
  have hmk := fun W => run_makeN (P := Try.prog) Try.underlying23 info_Proof n (by omega) (by omega) W
  have hcs0 : madeCells (Value.agg #[.int .i64 0, .int .i64 0, .int .i64 0]).cells (n * 3) = (cProof (lstP ks tp n [])).toArray := by
    apply Array.toList_inj.1; rw [show (Value.agg #[.int .i64 0, .int .i64 0, .int .i64 0]).cells = #[.int .i64 0, .int .i64 0, .int .i64 0] from rfl, made_Proof]; rfl
  rw [hcs0] at hmk
  obtain ⟨cs, hcs⟩ : ∃ cs, Hid ((cProof (lstP ks tp n [])).toArray = cs) := ⟨_, Lib.hid rfl⟩
  rw [hcs.out] at hmk
  clear hF hT hN hnt hcs0
  refine callsIn_of_wp_marks Try.func45 rfl trivial ?_ rfl
  simp only [Try.ntmps45, List.size_toArray, List.length_cons, List.length_nil, Nat.reduceAdd, Nat.reduceSub, Array.replicate_succ, Array.replicate_zero, List.push_toArray, List.append_toArray, List.nil_append, List.cons_append]
  gi_wp2_with (refine ⟨trivial, ?_⟩
               gi_at_call 89
               refine (callsIn_wide.2 (i_others _ _ _ _ ⟨_, _, _, rfl⟩)).mono ?_
               rintro e w' ⟨rfl, rfl⟩)
  obtain ⟨W0, hW0⟩ : ∃ W0, Hid (((((((w.alloc (.cells #[.int .i64 q, .int .i64 s] 60)).alloc (.cells #[.int .i64 ch] 58)).alloc (.cells cs 54)).alloc (.cells #[.slice (some ⟨w.heap.size + 1 + 1, 0, none⟩) n n] 23)).alloc (.cells #[.int .i64 q] 3)).alloc (.cells #[.slice At nt ct] 22)).alloc (.cells #[.func (.func 46) #[] #[.pointer (some ⟨Bk, 0, none⟩)]] 109) = W0) := ⟨_, Lib.hid rfl⟩
  have bK : Bx W0 w.heap.size #[.int .i64 q, .int .i64 s] 60 := by rw [← hW0.out]; exact ((((((Bx.new w _ _).alloc _).alloc _).alloc _).alloc _).alloc _).alloc _
  have bC : Bx W0 (w.heap.size + 1) #[.int .i64 ch] 58 := by
    rw [← hW0.out]; have := (((((Bx.new (w.alloc (.cells #[.int .i64 q, .int .i64 s] 60)) #[.int .i64 ch] 58).alloc (.cells cs 54)).alloc (.cells #[.slice (some ⟨w.heap.size + 1 + 1, 0, none⟩) n n] 23)).alloc (.cells #[.int .i64 q] 3)).alloc (.cells #[.slice At nt ct] 22)).alloc (.cells #[.func (.func 46) #[] #[.pointer (some ⟨Bk, 0, none⟩)]] 109)
    simp only [World.size_alloc] at this; exact this
  have bR : Bx W0 (w.heap.size + 1 + 1) cs 54 := by
    rw [← hW0.out]; have := ((((Bx.new ((w.alloc (.cells #[.int .i64 q, .int .i64 s] 60)).alloc (.cells #[.int .i64 ch] 58)) cs 54).alloc (.cells #[.slice (some ⟨w.heap.size + 1 + 1, 0, none⟩) n n] 23)).alloc (.cells #[.int .i64 q] 3)).alloc (.cells #[.slice At nt ct] 22)).alloc (.cells #[.func (.func 46) #[] #[.pointer (some ⟨Bk, 0, none⟩)]] 109)
    simp only [World.size_alloc] at this; exact this
  have bL : Bx W0 (w.heap.size + 1 + 1 + 1) #[.slice (some ⟨w.heap.size + 1 + 1, 0, none⟩) n n] 23 := by
    rw [← hW0.out]; have := (((Bx.new (((w.alloc (.cells #[.int .i64 q, .int .i64 s] 60)).alloc (.cells #[.int .i64 ch] 58)).alloc (.cells cs 54)) #[.slice (some ⟨w.heap.size + 1 + 1, 0, none⟩) n n] 23).alloc (.cells #[.int .i64 q] 3)).alloc (.cells #[.slice At nt ct] 22)).alloc (.cells #[.func (.func 46) #[] #[.pointer (some ⟨Bk, 0, none⟩)]] 109)
    simp only [World.size_alloc] at this; exact this
  have hOB : OBx (w.heap.size + 1 + 1 + 1 + 1 + 1) (w.heap.size + 1 + 1 + 1 + 1) (w.heap.size + 1 + 1 + 1 + 1 + 1 + 1) (.slice At nt ct) q (.func (.func 46) #[] #[.pointer (some ⟨Bk, 0, none⟩)]) W0 := by
    rw [← hW0.out]
    have h1 := (Bx.new (((((w.alloc (.cells #[.int .i64 q, .int .i64 s] 60)).alloc (.cells #[.int .i64 ch] 58)).alloc (.cells cs 54)).alloc (.cells #[.slice (some ⟨w.heap.size + 1 + 1, 0, none⟩) n n] 23)).alloc (.cells #[.int .i64 q] 3)) #[.slice At nt ct] 22).alloc (.cells #[.func (.func 46) #[] #[.pointer (some ⟨Bk, 0, none⟩)]] 109)
    have h2 := ((Bx.new ((((w.alloc (.cells #[.int .i64 q, .int .i64 s] 60)).alloc (.cells #[.int .i64 ch] 58)).alloc (.cells cs 54)).alloc (.cells #[.slice (some ⟨w.heap.size + 1 + 1, 0, none⟩) n n] 23)) #[.int .i64 q] 3).alloc (.cells #[.slice At nt ct] 22)).alloc (.cells #[.func (.func 46) #[] #[.pointer (some ⟨Bk, 0, none⟩)]] 109)
    have h3 := Bx.new ((((((w.alloc (.cells #[.int .i64 q, .int .i64 s] 60)).alloc (.cells #[.int .i64 ch] 58)).alloc (.cells cs 54)).alloc (.cells #[.slice (some ⟨w.heap.size + 1 + 1, 0, none⟩) n n] 23)).alloc (.cells #[.int .i64 q] 3)).alloc (.cells #[.slice At nt ct] 22)) #[.func (.func 46) #[] #[.pointer (some ⟨Bk, 0, none⟩)]] 109
    simp only [World.size_alloc] at h1 h2 h3
    exact ⟨h1, h2, h3⟩
  have hsz : W0.heap.size = w.heap.size + 7 := by rw [← hW0.out]; simp only [World.size_alloc]
  have hB0 : Below w.heap.size w W0 := by
    rw [← hW0.out]
    exact (((((((Below.refl w.heap.size w).alloc (Nat.le_refl _) _).alloc (by simp) _).alloc (by simp; omega) _).alloc (by simp; omega) _).alloc (by simp; omega) _).alloc (by simp; omega) _).alloc (by simp; omega) _
  rw [hW0.out]
  rw [← hcs.out] at bR
  clear hmk hcs hW0
  refine wpIn_rangeFunc_ownH rfl (by decide) (gf := 111) (lb := #[.pointer (some ⟨w.heap.size + 1 + 1 + 1 + 1 + 1, 0, none⟩), .pointer (some ⟨w.heap.size + 1 + 1 + 1 + 1, 0, none⟩), .pointer (some ⟨w.heap.size + 1 + 1 + 1 + 1 + 1 + 1, 0, none⟩)]) rfl trivial (enters_of Try.func111 (by kernel_rfl) rfl)
    (stops_oth Bk (w.heap.size + 1 + 1 + 1 + 1 + 1) (w.heap.size + 1 + 1 + 1 + 1) (w.heap.size + 1 + 1 + 1 + 1 + 1 + 1) w.heap.size n q (9 - 1) nt ct At ks tp (by decide) w W0 HFF.out hn HNT.out HTP.out HNU.out hOB (by omega) hB0) KpP_t (KpP_b (by omega)) (Below.refl _ _) (fun _ => rfl)
    (fun pre W => Bx W w.heap.size #[.int .i64 q, .int .i64 s] 60 ∧ Bx W (w.heap.size + 1) #[.int .i64 (resP tp n ch pre)] 58 ∧ Bx W (w.heap.size + 1 + 1) (cProof (lstP ks tp n pre)).toArray 54 ∧ Bx W (w.heap.size + 1 + 1 + 1) #[.slice (some ⟨w.heap.size + 1 + 1, 0, none⟩) n n] 23 ∧ w.heap.size + 7 ≤ W.heap.size ∧ Below w.heap.size w W)
    (fun _ _ _ => False)
    (OwnFrom.and (bx_from _ _ _ _) (OwnFrom.and (bx_from _ _ _ _) (OwnFrom.and (bx_from _ _ _ _) (OwnFrom.and (bx_from _ _ _ _) (OwnFrom.and (fun _ _ _ _ h hg _ => Nat.le_trans h hg.size) (ownFrom_below (Nat.le_refl _) (by omega)))))))
    (fun _ _ _ _ _ hs _ _ => hs)
    ⟨bK, bC, bR, bL, by omega, hB0⟩
    (fun x a' W => ∃ (Bq : Nat) (y z u : Int), w.heap.size + 7 ≤ Bq ∧ Hid (otherP ks tp x.1 = (y, z, u)) ∧ Bx W Bq #[.int .i64 y, .int .i64 z, .int .i64 u] 54 ∧ a' = { tmps := #[.agg #[.int .i64 q, .int .i64 s], .int .i64 ch, .slice At nt ct, .func (.func 46) #[] #[.pointer (some ⟨Bk, 0, none⟩)], .pointer (some ⟨w.heap.size, 0, none⟩), .pointer (some ⟨w.heap.size + 1, 0, none⟩), undef, undef, .slice none 0 0, .pointer (some ⟨w.heap.size + 1 + 1 + 1, 0, none⟩), .int .i64 (x.1 : Nat), .pointer (some ⟨Bq, 0, none⟩), undef, .slice At nt ct, .int .i64 nt, .int .i64 n, .slice (some ⟨w.heap.size + 1 + 1, 0, none⟩) n n, .pointer (some ⟨w.heap.size, 0, none⟩), .int .i64 q, .slice At nt ct, .func (.func 46) #[] #[.pointer (some ⟨Bk, 0, none⟩)], .func (.func 111) #[] #[.pointer (some ⟨w.heap.size + 1 + 1 + 1 + 1 + 1, 0, none⟩), .pointer (some ⟨w.heap.size + 1 + 1 + 1 + 1, 0, none⟩), .pointer (some ⟨w.heap.size + 1 + 1 + 1 + 1 + 1 + 1, 0, none⟩)], .int .i64 (x.1 : Nat), .agg #[.int .i64 y, .int .i64 z, .int .i64 u], undef, undef, undef, undef, undef, undef, undef, undef, undef, undef, undef, undef, undef, undef, undef, undef, undef, undef, undef, undef, undef, undef, undef, undef, undef, undef, undef, undef, undef, undef], defers := [] })
    (fun x a' _ X Y row hs hg hr => by
      obtain ⟨Bq, y, z, u, h1, ho, h2, h3⟩ := hs
      exact ⟨Bq, y, z, u, h1, ho, bx_from W0.heap.size Bq (fun _ : Unit => #[.int .i64 y, .int .i64 z, .int .i64 u]) 54 () X Y row h2 hg hr, h3⟩)
    ?assign ?body ?done ?stop
  case assign =>
    rintro l pre x W K ⟨h1, h2, h3, h4, h5, hB⟩ hK
    obtain ⟨⟨y, z, u⟩, ho⟩ : ∃ o, Hid (otherP ks tp x.1 = o) := ⟨_, Lib.hid rfl⟩
    simp only [encO, ho.out]
    gi_wp2
    exact hK _ _ ((KeepsOthers.alloc _ _).from _) ⟨(Below.refl _ W).alloc hB.size _, fun h => ⟨h.1.alloc _, h.2.1.alloc _, h.2.2.alloc _⟩⟩ ⟨h1.alloc _, h2.alloc _, h3.alloc _, h4.alloc _, by simp only [World.size_alloc]; omega, hB.alloc hB.size _⟩ ⟨W.heap.size, y, z, u, h5, ho, Bx.new _ _ _, rfl⟩
  case body =>
    rintro l pre x a' W hl ⟨r, hr⟩ ⟨bK, bC, bR, bL, hs7, hB⟩ ⟨Bq, y, z, u, hBq, ho, bX, rfl⟩ _
    obtain ⟨j, hj⟩ := x
    have HO : Hid (otherP ks tp j = (y, z, u)) := ho
    have hz : z = tp.getD (2 * j) 0 := by have := HO.out; unfold otherP at this; exact (congrArg (fun p => p.2.1) this).symm
    have hzb := numsB_at5 HNU.out (k := 2 * j) (by have := HTP.out.len; have := HNT.out; omega)
    rw [← hz] at hzb
    obtain ⟨z0, z1⟩ := hzb
    have hcb := resP_bd tp n ch ⟨c0, c1⟩ pre
    obtain ⟨c, hc⟩ : ∃ c, Hid (resP tp n ch pre = c) := ⟨_, Lib.hid rfl⟩
    rw [hc.out] at hcb bC
    obtain ⟨cb0, cb1⟩ := hcb
    have HIN : Hid (resP tp n ch (pre ++ [⟨j, hj⟩]) = (c - z) % 113 ∧ lstP ks tp n (pre ++ [⟨j, hj⟩]) = (lstP ks tp n pre).set j (y, z, u)) := Lib.hid ⟨by rw [resP_snoc, hc.out, hz], by rw [lstP_snoc, ← HO.out]⟩
    have BK := Lib.hid bK
    have BR := Lib.hid bR
    have BL := Lib.hid bL
    have BB := Lib.hid hB
    have cL : W.cell? ⟨w.heap.size + 1 + 1 + 1, 0, none⟩ = some (.slice (some ⟨w.heap.size + 1 + 1, 0, none⟩) n n) := bL.cell 0
    have cX0 : W.cell? ⟨Bq, 0, none⟩ = some (.int .i64 y) := bX.cell 0
    have cX1 : W.cell? ⟨Bq, 1, none⟩ = some (.int .i64 z) := bX.cell 1
    have cX2 : W.cell? ⟨Bq, 2, none⟩ = some (.int .i64 u) := bX.cell 2
    obtain ⟨⟨xv0, xc0⟩, ⟨xv1, xc1⟩, ⟨xv2, xc2⟩, xff⟩ := bx_row3 (k := j) bR (by rw [lstP_len]; exact hj)
    have xf0 := xff (j * 3)
    have xf1 := xff (j * 3 + 1)
    have xf2 := xff (j * 3 + 2)
    have i0 : (0 : Int) ≤ (j : Int) := by omega
    have i1 : (j : Int) < (n : Int) := by omega
    clear hz HO ho hc bK bR bL hB HFF HTP HNU HNT hquo
    gi_wp2
    obtain ⟨W5, hW5⟩ : ∃ W5, Hid (((W.setCell ⟨w.heap.size + 1 + 1, j * 3, none⟩ (.int .i64 y)).setCell ⟨w.heap.size + 1 + 1, j * 3 + 1, none⟩ (.int .i64 z)).setCell ⟨w.heap.size + 1 + 1, j * 3 + 2, none⟩ (.int .i64 u) = W5) := ⟨_, Lib.hid rfl⟩
    rw [hW5.out]
    have bC5 : Bx W5 (w.heap.size + 1) #[.int .i64 c] 58 := by rw [← hW5.out]; exact ((bC.other _ _ (by simp only; omega)).other _ _ (by simp only; omega)).other _ _ (by simp only; omega)
    have bX5 : Bx W5 Bq #[.int .i64 y, .int .i64 z, .int .i64 u] 54 := by rw [← hW5.out]; exact ((bX.other _ _ (by simp only; omega)).other _ _ (by simp only; omega)).other _ _ (by simp only; omega)
    have BR5 : Hid (Bx W5 (w.heap.size + 1 + 1) (cProof ((lstP ks tp n pre).set j (y, z, u))).toArray 54) := Lib.hid (by rw [← hW5.out]; exact enc_set3 BR.out y z u)
    have cc5 : W5.cell? ⟨w.heap.size + 1, 0, none⟩ = some (.int .i64 c) := bC5.cell 0
    have cf5 : W5.frozen? ⟨w.heap.size + 1, 0, none⟩ = false := bC5.free 0
    have cY0 : W5.cell? ⟨Bq, 0, none⟩ = some (.int .i64 y) := bX5.cell 0
    have cY1 : W5.cell? ⟨Bq, 1, none⟩ = some (.int .i64 z) := bX5.cell 1
    have cY2 : W5.cell? ⟨Bq, 2, none⟩ = some (.int .i64 u) := bX5.cell 2
    clear cL cX0 cX1 cX2 xc0 xc1 xc2 xff xf0 xf1 xf2 bX
    gi_region_with (first
      | rw [inv_pf]
      | rw [field_an]
      | (refine ⟨trivial, ?_⟩
         gi_at_call 135
         refine (CallsIn.inRound l (callsIn_wide.2 (i_Proof_answer y z u _))).mono ?_
         rintro e w2 ⟨rfl, hb2⟩
         have bC2 : Bx w2 (w.heap.size + 1) #[.int .i64 c] 58 := Bx.below (show Bx W5.drew _ _ _ from bC5) hb2 bC5.lt
         have cc2 : w2.cell? ⟨w.heap.size + 1, 0, none⟩ = some (.int .i64 c) := bC2.cell 0
         have cf2 : w2.frozen? ⟨w.heap.size + 1, 0, none⟩ = false := bC2.free 0)
      | (refine ⟨trivial, ?_⟩
         gi_at_call 90
         refine (CallsIn.inRound l (callsIn_wide.2 (i_minus c z _ cb0 cb1 z0 z1))).mono ?_
         rintro e w' ⟨rfl, rfl⟩))
    all_goals
      gi_wp2
      have hr := oth_round (W := W) (b := w.heap.size) (k := j) (y := .int .i64 y) (z := .int .i64 z) (u := .int .i64 u) (w2 := w2) (v := .int .i64 ((c - z) % 113)) hs7 (by rw [hW5.out]; exact hb2)
      have bR2 : Bx (w2.setCell ⟨w.heap.size + 1, 0, none⟩ (.int .i64 ((c - z) % 113))) (w.heap.size + 1 + 1) (cProof ((lstP ks tp n pre).set j (y, z, u))).toArray 54 := Bx.other (Bx.below (show Bx W5.drew _ _ _ from BR5.out) hb2 BR5.out.lt) _ _ (by simp only; omega)
      exact ⟨hr.1.from _, ⟨hr.2.1, fun h => ⟨hr.2.2 _ _ _ (by omega) (by omega) h.1, hr.2.2 _ _ _ (by omega) (by omega) h.2.1, hr.2.2 _ _ _ (by omega) (by omega) h.2.2⟩⟩, hr.2.2 _ _ _ (by omega) (by omega) BK.out, by rw [HIN.out.1]; exact bC2.set 0 _, by rw [HIN.out.2]; exact bR2, hr.2.2 _ _ _ (by omega) (by omega) BL.out, Nat.le_trans hs7 hr.1.size, BB.out.trans hr.2.1⟩
  case done =>
    rintro D ys W hD rfl ⟨bK, bC, bR, bL, hs7, hB⟩ hK
    have HO_df : Hid (DfA W D) := Lib.hid hK
    have hDl : D < W.heap.size := HO_df.out.lt
    rw [resP_all tp n q ch (Nat.le_refl n)] at bC
    have hcb := restK_bd (tp := tp) (i := q) ⟨c0, c1⟩ n
    obtain ⟨c, hc⟩ : ∃ c, Hid (restK tp q ch n = c) := ⟨_, Lib.hid rfl⟩
    rw [hc.out] at hcb bC
    obtain ⟨cb0, cb1⟩ := hcb
    obtain ⟨J2, HJ⟩ : ∃ J2, Hid (J2 = 2 * q) := ⟨_, Lib.hid rfl⟩
    have hJ0 : J2 < nt := by have := HJ.out; have := HNT.out; omega
    obtain ⟨ta, t0, rfl, hbb, ht0, HT0⟩ := HTP.out.intAt hJ0
    have hta := (hB.cell (p := ta.add J2) (by rw [add_block]; exact hbb)).trans ht0
    have tb0 := numsB_at5 HNU.out (k := J2) (by have := HTP.out.len; omega)
    rw [← HT0.out] at tb0
    obtain ⟨t00, t01⟩ := tb0
    have HT1 : Hid (tp.getD (2 * q) 0 = t0) := Lib.hid (by rw [← HJ.out]; exact HT0.out.symm)
    obtain ⟨rr, hrr⟩ : ∃ r, Hid ((t0 + c * s) % 113 = r) := ⟨_, Lib.hid rfl⟩
    have rr0 : 0 ≤ rr := by rw [← hrr.out]; omega
    have rr1 : rr ≤ 112 := by rw [← hrr.out]; omega
    have HAN := fun W => Lib.hid (i_answering s t0 c W s0 s1 t00 t01 cb0 cb1)
    simp only [hrr.out] at HAN
    have HF8 : Hid (∀ W, Below w.heap.size w W → Calls Try.prog 46 #[.int .i64 (q : Nat), .agg #[.int .i64 c, .int .i64 rr], .pointer (some ⟨Bk, 0, none⟩)] W fun e W' => e = .returned (.agg #[.int .i64 (backI 4 (ks.getD q 0) rr c), .int .i64 c, .int .i64 rr]) ∧ Below W.heap.size W W') := Lib.hid (fun W hb => HFF.out W q c rr hb hq cb0 cb1 rr0 rr1)
    obtain ⟨bk, hbk⟩ : ∃ v, Hid (backI 4 (ks.getD q 0) rr c = v) := ⟨_, Lib.hid rfl⟩
    rw [hbk.out] at HF8
    have HEND : Hid ((lstP ks tp n (othF n q n)).set q (bk, c, rr) = ((List.range n).map (otherP ks tp)).set q (backI 4 (ks.getD q 0) ((tp.getD (2 * q) 0 + restK tp q ch n * s) % 113) (restK tp q ch n), restK tp q ch n, (tp.getD (2 * q) 0 + restK tp q ch n * s) % 113)) := Lib.hid (by rw [lstP_all, HT1.out, hc.out, hrr.out, hbk.out])
    have HX_kn := Lib.hid bK
    have HX_ch := Lib.hid bC
    have HX_li := Lib.hid bL
    have HW := Lib.hid bR
    have HB := Lib.hid hB
    have kk0 : W.cell? ⟨w.heap.size, 0, none⟩ = some (.int .i64 q) := bK.cell 0
    have iw : IntKind.i64.wrap (2 * (q : Int)) = (J2 : Int) := by
      have := HJ.out
      have e : (J2 : Int) = 2 * (q : Int) := by omega
      rw [e]; exact IntWalk.i64_in _ (by omega)
    have i2 : (0 : Int) ≤ (J2 : Int) := by omega
    have i3 : (J2 : Int) < (nt : Int) := by omega
    have iq0 : (0 : Int) ≤ (q : Int) := by omega
    have iq1 : (q : Int) < (n : Int) := by omega
    clear hK hc ht0 HT0 HT1 hrr hbk bK bC bL bR hB HFF HTP HNU HNT hquo hJ0 hbb
    gi_upto_region 8 with (fail)
    clear kk0 hta
    refine wpIn_wide.2 (wp_onlyN ?_)
    refine wp_region_held_drew (S := fun w' => w'.cell? ⟨w.heap.size, 0, none⟩ = some (.int .i64 q) ∧ w'.cell? ⟨w.heap.size, 1, none⟩ = some (.int .i64 s) ∧ w'.cell? ⟨(w.heap.size + 1), 0, none⟩ = some (.int .i64 c) ∧ w'.cell? ⟨(w.heap.size + 1 + 1 + 1), 0, none⟩ = some (.slice (some ⟨w.heap.size + 1 + 1, 0, none⟩) n n)) (by kernel_rfl) ⟨HX_kn.out.cell 0, HX_kn.out.cell 1, HX_ch.out.cell 0, HX_li.out.cell 0⟩ (fun hHeld => ?_)
    obtain ⟨u0, hu0⟩ : ∃ u0, Hid (W.drew = u0) := ⟨_, Lib.hid rfl⟩
    rw [hu0.out] at hHeld ⊢
    have zs0 : W.heap.size = u0.heap.size := by rw [← hu0.out]; rfl
    replace zs0 := Nat.le_of_eq zs0
    have HBl0 : Hid (Below w.heap.size w u0) := Lib.hid (by rw [← hu0.out]; exact HB.out.drew)
    have HX_kn0 : Hid (Bx u0 w.heap.size #[.int .i64 q, .int .i64 s] 60) := Lib.hid (by rw [← hu0.out]; exact HX_kn.out)
    have HX_ch0 : Hid (Bx u0 (w.heap.size + 1) #[.int .i64 c] 58) := Lib.hid (by rw [← hu0.out]; exact HX_ch.out)
    have HX_li0 : Hid (Bx u0 (w.heap.size + 1 + 1 + 1) #[.slice (some ⟨w.heap.size + 1 + 1, 0, none⟩) n n] 23) := Lib.hid (by rw [← hu0.out]; exact HX_li.out)
    have HO_df0 : Hid (DfA u0 D) := Lib.hid (by rw [← hu0.out]; exact HO_df.out)
    have HW0 : Hid (Bx u0 (w.heap.size + 1 + 1) (cProof (lstP ks tp n (othF n q n))).toArray 54) := Lib.hid (by rw [← hu0.out]; exact HW.out)
    clear hu0
    refine wpAnyH_take (i := 0) (oi := { dst := some 40, op := Op.load 23 (Operand.tmp 9), type := 23, pos := "l15_either.go:50", after := #[], guard := none }) (v := ?_) rfl (by kernel_rfl) (by kernel_rfl) (by kernel_rfl) (fun _ _ _ h => h) (Or.inl ⟨by rfl, ?_⟩) hHeld ?_
    rotate_left
    · intro w hSw; obtain ⟨s0, s1, s2, s3⟩ := hSw; (try dsimp only at hSw); go_simp; (try with_reducible rfl)
    try simp only [Act.put, List.setIfInBounds_toArray, List.set_cons_zero, List.set_cons_succ]
    refine wpAnyH_take (i := 1) (oi := { dst := some 41, op := Op.fieldAddr 60 (Operand.tmp 4) 0, type := 0, pos := "l15_either.go:50", after := #[], guard := none }) (v := ?_) rfl (by kernel_rfl) (by kernel_rfl) (by kernel_rfl) (fun _ _ _ h => h) (Or.inl ⟨by rfl, ?_⟩) hHeld ?_
    rotate_left
    · intro w hSw; obtain ⟨s0, s1, s2, s3⟩ := hSw; (try dsimp only at hSw); go_simp; (try with_reducible rfl)
    try simp only [Act.put, List.setIfInBounds_toArray, List.set_cons_zero, List.set_cons_succ]
    refine wpAnyH_take (i := 2) (oi := { dst := some 42, op := Op.load 3 (Operand.tmp 41), type := 3, pos := "l15_either.go:50", after := #[{ on := 1, ground := Ground.data }], guard := none }) (v := ?_) rfl (by kernel_rfl) (by kernel_rfl) (by kernel_rfl) (fun _ _ _ h => h) (Or.inl ⟨by rfl, ?_⟩) hHeld ?_
    rotate_left
    · intro w hSw; obtain ⟨s0, s1, s2, s3⟩ := hSw; (try dsimp only at hSw); go_simp; (try with_reducible rfl)
    try simp only [Act.put, List.setIfInBounds_toArray, List.set_cons_zero, List.set_cons_succ]
    refine wpAnyH_take (i := 3) (oi := { dst := some 43, op := Op.move (Operand.tmp 3), type := 109, pos := "l15_either.go:50", after := #[], guard := none }) (v := ?_) rfl (by kernel_rfl) (by kernel_rfl) (by kernel_rfl) (fun _ _ _ h => h) (Or.inl ⟨by rfl, ?_⟩) hHeld ?_
    rotate_left
    · intro w hSw; obtain ⟨s0, s1, s2, s3⟩ := hSw; (try dsimp only at hSw); go_simp; (try with_reducible rfl)
    try simp only [Act.put, List.setIfInBounds_toArray, List.set_cons_zero, List.set_cons_succ]
    refine wpAnyH_take (i := 4) (oi := { dst := some 44, op := Op.fieldAddr 60 (Operand.tmp 4) 0, type := 0, pos := "l15_either.go:50", after := #[], guard := none }) (v := ?_) rfl (by kernel_rfl) (by kernel_rfl) (by kernel_rfl) (fun _ _ _ h => h) (Or.inl ⟨by rfl, ?_⟩) hHeld ?_
    rotate_left
    · intro w hSw; obtain ⟨s0, s1, s2, s3⟩ := hSw; (try dsimp only at hSw); go_simp; (try with_reducible rfl)
    try simp only [Act.put, List.setIfInBounds_toArray, List.set_cons_zero, List.set_cons_succ]
    refine wpAnyH_take (i := 5) (oi := { dst := some 45, op := Op.load 3 (Operand.tmp 44), type := 3, pos := "l15_either.go:50", after := #[{ on := 4, ground := Ground.data }], guard := none }) (v := ?_) rfl (by kernel_rfl) (by kernel_rfl) (by kernel_rfl) (fun _ _ _ h => h) (Or.inl ⟨by rfl, ?_⟩) hHeld ?_
    rotate_left
    · intro w hSw; obtain ⟨s0, s1, s2, s3⟩ := hSw; (try dsimp only at hSw); go_simp; (try with_reducible rfl)
    try simp only [Act.put, List.setIfInBounds_toArray, List.set_cons_zero, List.set_cons_succ]
    refine wpAnyH_take (i := 6) (oi := { dst := some 46, op := Op.fieldAddr 60 (Operand.tmp 4) 1, type := 0, pos := "l15_either.go:50", after := #[], guard := none }) (v := ?_) rfl (by kernel_rfl) (by kernel_rfl) (by kernel_rfl) (fun _ _ _ h => h) (Or.inl ⟨by rfl, ?_⟩) hHeld ?_
    rotate_left
    · intro w hSw; obtain ⟨s0, s1, s2, s3⟩ := hSw; (try dsimp only at hSw); go_simp; (try with_reducible rfl)
    try simp only [Act.put, List.setIfInBounds_toArray, List.set_cons_zero, List.set_cons_succ]
    refine wpAnyH_take (i := 7) (oi := { dst := some 47, op := Op.load 58 (Operand.tmp 46), type := 58, pos := "l15_either.go:50", after := #[{ on := 6, ground := Ground.data }], guard := none }) (v := ?_) rfl (by kernel_rfl) (by kernel_rfl) (by kernel_rfl) (fun _ _ _ h => h) (Or.inl ⟨by rfl, ?_⟩) hHeld ?_
    rotate_left
    · intro w hSw; obtain ⟨s0, s1, s2, s3⟩ := hSw; (try dsimp only at hSw); go_simp; (try with_reducible rfl)
    try simp only [Act.put, List.setIfInBounds_toArray, List.set_cons_zero, List.set_cons_succ]
    refine wpAnyH_take (i := 8) (oi := { dst := some 48, op := Op.move (Operand.tmp 12), type := 58, pos := "l15_either.go:50", after := #[], guard := none }) (v := ?_) rfl (by kernel_rfl) (by kernel_rfl) (by kernel_rfl) (fun _ _ _ h => h) (Or.inl ⟨by rfl, ?_⟩) hHeld ?_
    rotate_left
    · intro w hSw; obtain ⟨s0, s1, s2, s3⟩ := hSw; (try dsimp only at hSw); go_simp; (try with_reducible rfl)
    try simp only [Act.put, List.setIfInBounds_toArray, List.set_cons_zero, List.set_cons_succ]
    refine wpAnyH_take (i := 9) (oi := { dst := some 49, op := Op.load 58 (Operand.tmp 5), type := 58, pos := "l15_either.go:50", after := #[], guard := none }) (v := ?_) rfl (by kernel_rfl) (by kernel_rfl) (by kernel_rfl) (fun _ _ _ h => h) (Or.inl ⟨by rfl, ?_⟩) hHeld ?_
    rotate_left
    · intro w hSw; obtain ⟨s0, s1, s2, s3⟩ := hSw; (try dsimp only at hSw); go_simp; (try with_reducible rfl)
    try simp only [Act.put, List.setIfInBounds_toArray, List.set_cons_zero, List.set_cons_succ]
    refine wpAnyH_ready (rs := [10]) (by kernel_rfl) (by simp) ?_
    refine AllReadyH.cons (o := { dst := some 50, op := Op.call { callee := Callee.value (Operand.func 91), args := #[Operand.tmp 47, Operand.tmp 48, Operand.tmp 49], argTypes := #[58, 58, 58] }, type := 64, pos := "l15_either.go:50", after := #[{ on := 7, ground := Ground.data }, { on := 8, ground := Ground.data }, { on := 9, ground := Ground.data }], guard := none }) rfl (fun K hK => ?_) ?_
    · go_simp
      refine ((HAN u0).out).mono ?_
      rintro e u1 ⟨rfl, hb_⟩
      have zs1 : u0.heap.size ≤ u1.heap.size := hb_.size
      have HBl1 : Hid (Below w.heap.size w u1) := Lib.hid (HBl0.out.trans (hb_.mono HBl0.out.size))
      have HX_kn1 : Hid (Bx u1 w.heap.size #[.int .i64 q, .int .i64 s] 60) := Lib.hid (HX_kn0.out.below hb_ HX_kn0.out.lt)
      have HX_ch1 : Hid (Bx u1 (w.heap.size + 1) #[.int .i64 c] 58) := Lib.hid (HX_ch0.out.below hb_ HX_ch0.out.lt)
      have HX_li1 : Hid (Bx u1 (w.heap.size + 1 + 1 + 1) #[.slice (some ⟨w.heap.size + 1 + 1, 0, none⟩) n n] 23) := Lib.hid (HX_li0.out.below hb_ HX_li0.out.lt)
      have HO_df1 := Lib.hid (HO_df0.out.below hb_ (by omega))
      have HW1 : Hid (Bx u1 (w.heap.size + 1 + 1) (cProof (lstP ks tp n (othF n q n))).toArray 54) := Lib.hid (HW0.out.below hb_ HW0.out.lt)
      clear hHeld hb_ HBl0 HX_kn0 HX_ch0 HX_li0 HO_df0 HW0
      (try dsimp only)
      (try go_wp2_with fail)
      refine hK.out _ _ ⟨HX_kn1.out.cell 0, HX_kn1.out.cell 1, HX_ch1.out.cell 0, HX_li1.out.cell 0⟩ (fun hHeld => ?_)
      clear hK K
      try simp only [Act.put, List.setIfInBounds_toArray, List.set_cons_zero, List.set_cons_succ]
      refine wpAnyH_ready (rs := [11]) (by kernel_rfl) (by simp) ?_
      refine AllReadyH.cons (o := { dst := some 51, op := Op.call { callee := Callee.value (Operand.tmp 43), args := #[Operand.tmp 45, Operand.tmp 50], argTypes := #[3, 64] }, type := 54, pos := "l15_either.go:50", after := #[{ on := 3, ground := Ground.data }, { on := 5, ground := Ground.data }, { on := 10, ground := Ground.data }, { on := 10, ground := Ground.chain }], guard := none }) rfl (fun K hK => ?_) ?_
      · go_simp
        refine ((HF8.out u1 HBl1.out)).mono ?_
        rintro e u2 ⟨rfl, hb_⟩
        have zs2 : u1.heap.size ≤ u2.heap.size := hb_.size
        have HBl2 : Hid (Below w.heap.size w u2) := Lib.hid (HBl1.out.trans (hb_.mono HBl1.out.size))
        have HX_kn2 : Hid (Bx u2 w.heap.size #[.int .i64 q, .int .i64 s] 60) := Lib.hid (HX_kn1.out.below hb_ HX_kn1.out.lt)
        have HX_ch2 : Hid (Bx u2 (w.heap.size + 1) #[.int .i64 c] 58) := Lib.hid (HX_ch1.out.below hb_ HX_ch1.out.lt)
        have HX_li2 : Hid (Bx u2 (w.heap.size + 1 + 1 + 1) #[.slice (some ⟨w.heap.size + 1 + 1, 0, none⟩) n n] 23) := Lib.hid (HX_li1.out.below hb_ HX_li1.out.lt)
        have HO_df2 := Lib.hid (HO_df1.out.below hb_ (by omega))
        have HW2 : Hid (Bx u2 (w.heap.size + 1 + 1) (cProof (lstP ks tp n (othF n q n))).toArray 54) := Lib.hid (HW1.out.below hb_ HW1.out.lt)
        clear hHeld hb_ HBl1 HX_kn1 HX_ch1 HX_li1 HO_df1 HW1
        (try dsimp only)
        (try go_wp2_with fail)
        refine hK.out _ _ ⟨HX_kn2.out.cell 0, HX_kn2.out.cell 1, HX_ch2.out.cell 0, HX_li2.out.cell 0⟩ (fun hHeld => ?_)
        clear hK K
        try simp only [Act.put, List.setIfInBounds_toArray, List.set_cons_zero, List.set_cons_succ]
        refine wpAnyH_take (i := 12) (oi := { dst := some 52, op := Op.indexAddr 23 (Operand.tmp 40) (Operand.tmp 42), type := 0, pos := "l15_either.go:50", after := #[{ on := 0, ground := Ground.data }, { on := 2, ground := Ground.data }, { on := 0, ground := Ground.phase }, { on := 1, ground := Ground.phase }, { on := 2, ground := Ground.phase }, { on := 3, ground := Ground.phase }, { on := 4, ground := Ground.phase }, { on := 5, ground := Ground.phase }, { on := 6, ground := Ground.phase }, { on := 7, ground := Ground.phase }, { on := 8, ground := Ground.phase }, { on := 9, ground := Ground.phase }, { on := 10, ground := Ground.phase }, { on := 11, ground := Ground.phase }], guard := none }) (v := ?_) rfl (by kernel_rfl) (by kernel_rfl) (by kernel_rfl) (fun _ _ _ h => h) (Or.inl ⟨by rfl, ?_⟩) hHeld ?_
        rotate_left
        · intro w hSw; obtain ⟨s0, s1, s2, s3⟩ := hSw; (try dsimp only at hSw); go_simp; (try with_reducible rfl)
        try simp only [Act.put, List.setIfInBounds_toArray, List.set_cons_zero, List.set_cons_succ]
        refine wpAnyH_ready (rs := [13]) (by kernel_rfl) (by simp) ?_
        refine AllReadyH.cons (o := { dst := none, op := Op.store 54 (Operand.tmp 52) (Operand.tmp 51), type := 0, pos := "l15_either.go:50", after := #[{ on := 12, ground := Ground.data }, { on := 11, ground := Ground.data }, { on := 11, ground := Ground.chain }, { on := 0, ground := Ground.phase }, { on := 1, ground := Ground.phase }, { on := 2, ground := Ground.phase }, { on := 3, ground := Ground.phase }, { on := 4, ground := Ground.phase }, { on := 5, ground := Ground.phase }, { on := 6, ground := Ground.phase }, { on := 7, ground := Ground.phase }, { on := 8, ground := Ground.phase }, { on := 9, ground := Ground.phase }, { on := 10, ground := Ground.phase }, { on := 11, ground := Ground.phase }], guard := none }) rfl (fun K hK => ?_) ?_
        · obtain ⟨⟨xv0, xc0⟩, ⟨xv1, xc1⟩, ⟨xv2, xc2⟩, xff⟩ := bx_row3 HW2.out (by rw [lstP_len]; exact hq)
          have xf0 := xff (q * 3)
          have xf1 := xff (q * 3 + 1)
          have xf2 := xff (q * 3 + 2)
          go_simp
          obtain ⟨u3, hw3⟩ : ∃ W, Hid ((((u2.setCell ⟨w.heap.size + 1 + 1, q * 3, none⟩ (.int .i64 bk)).setCell ⟨w.heap.size + 1 + 1, q * 3 + 1, none⟩ (.int .i64 c)).setCell ⟨w.heap.size + 1 + 1, q * 3 + 2, none⟩ (.int .i64 rr)) = W) := ⟨_, Lib.hid rfl⟩
          rw [hw3.out]
          have hk3 : Kept (w.heap.size + 1 + 1) (w.heap.size + 1 + 1 + 1) u2 u3 := by rw [← hw3.out]; exact (((Kept.refl _ _ _).setCell (p := ⟨w.heap.size + 1 + 1, q * 3, none⟩) (Nat.le_refl _) (Nat.lt_succ_self _) _).setCell (p := ⟨w.heap.size + 1 + 1, q * 3 + 1, none⟩) (Nat.le_refl _) (Nat.lt_succ_self _) _).setCell (p := ⟨w.heap.size + 1 + 1, q * 3 + 2, none⟩) (Nat.le_refl _) (Nat.lt_succ_self _) _
          have zs3 : u2.heap.size ≤ u3.heap.size := hk3.size
          have HBl3 : Hid (Below w.heap.size w u3) := Lib.hid (by rw [← hw3.out]; exact (((HBl2.out).setCell (p := ⟨w.heap.size + 1 + 1, q * 3, none⟩) (by simp only; omega) _).setCell (p := ⟨w.heap.size + 1 + 1, q * 3 + 1, none⟩) (by simp only; omega) _).setCell (p := ⟨w.heap.size + 1 + 1, q * 3 + 2, none⟩) (by simp only; omega) _)
          have HW3 : Hid (Bx u3 (w.heap.size + 1 + 1) (cProof ((lstP ks tp n (othF n q n)).set q (bk, c, rr))).toArray 54) := Lib.hid (by rw [← hw3.out]; exact enc_set3 HW2.out bk c rr)
          have HX_kn3 : Hid (Bx u3 w.heap.size #[.int .i64 q, .int .i64 s] 60) := Lib.hid (HX_kn2.out.kept hk3 (by omega))
          have HX_ch3 : Hid (Bx u3 (w.heap.size + 1) #[.int .i64 c] 58) := Lib.hid (HX_ch2.out.kept hk3 (by omega))
          have HX_li3 : Hid (Bx u3 (w.heap.size + 1 + 1 + 1) #[.slice (some ⟨w.heap.size + 1 + 1, 0, none⟩) n n] 23) := Lib.hid (HX_li2.out.kept hk3 (by omega))
          have HO_df3 := Lib.hid (HO_df2.out.kept hk3 (by omega) (by omega))
          clear hHeld hw3 hk3 xc0 xc1 xc2 xf0 xf1 xf2 xff HBl2 HX_kn2 HX_ch2 HX_li2 HO_df2 HW2
          refine hK.out _ _ ⟨HX_kn3.out.cell 0, HX_kn3.out.cell 1, HX_ch3.out.cell 0, HX_li3.out.cell 0⟩ (fun hHeld => ?_)
          clear hK K
          try simp only [Act.put]
          refine wpAnyH_done (by kernel_rfl) ?_ _
          simp only [OnlyN]
          have xL : u3.cell? ⟨w.heap.size + 1 + 1 + 1, 0, none⟩ = some (.slice (some ⟨w.heap.size + 1 + 1, 0, none⟩) n n) := HX_li3.out.cell 0
          gi_wp2
          refine ⟨by simp, .inl ⟨_, _, rfl, run_takeDeferred HO_df3.out, ?_⟩⟩
          refine ⟨_, results_tmp rfl _ _ _, w.heap.size + 1 + 1, rfl, by omega, ?_, HBl3.out.trans (belowK_b (w := w) (Nat.le_refl _) u3 D _ _ (by omega) HO_df3.out rfl rfl)⟩
          rw [← HEND.out]
          exact bx_putObj HW3.out HO_df3.out rfl
        exact AllReadyH.nil
      exact AllReadyH.nil
    exact AllReadyH.nil
  case stop =>
    rintro D c pre W _ _ h _
    exact h.elim
end Go.Proofs.Ytdhakbpimbadgaa
