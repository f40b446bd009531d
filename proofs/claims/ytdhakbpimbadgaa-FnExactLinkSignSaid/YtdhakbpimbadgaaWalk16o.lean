/- Chapter 15: the list of proofs by a tape, over the closure that feigns. Made by tools/gen15/q2.py. -/
import Derived.Test.YtdhakbpimbadgaaWalk16n
import Derived.Stop.RegionWithIn
namespace Go.Proofs.Ytdhakbpimbadgaa
open Go.RowKit Go.Shelf
set_option maxRecDepth 100000
attribute [local go_sem] Oper.semAt_some

/-- the list behind the rounds, and what is left of the challenge -/
def lstT (ks : List Int) (tag : Int) (tp : List Int) (n : Nat) (pre : List (Fin n)) : List Tw := pre.foldl (fun L x => L.set x.1 (lotherT ks tag tp x.1)) (List.replicate n (0, 0, 0, 0))
theorem lstT_snoc (ks : List Int) (tag : Int) (tp : List Int) (n : Nat) (pre : List (Fin n)) (x : Fin n) : lstT ks tag tp n (pre ++ [x]) = (lstT ks tag tp n pre).set x.1 (lotherT ks tag tp x.1) := by unfold lstT; rw [List.foldl_append]; rfl
theorem lstT_len (ks : List Int) (tag : Int) (tp : List Int) (n : Nat) (pre : List (Fin n)) : (lstT ks tag tp n pre).length = n := by
  suffices h : ∀ (l : List (Fin n)) (L : List Tw), L.length = n → (l.foldl (fun L x => L.set x.1 (lotherT ks tag tp x.1)) L).length = n from h _ _ (by simp)
  intro l
  induction l with
  | nil => exact fun L h => h
  | cons x t ih => exact fun L h => ih _ (by rw [List.length_set]; exact h)
theorem lstT_get (ks : List Int) (tag : Int) (tp : List Int) (n q : Nat) {k : Nat} (hk : k ≤ n) (j : Nat) : (lstT ks tag tp n (othF n q k))[j]? = if j < k ∧ j ≠ q then some (lotherT ks tag tp j) else if j < n then some (0, 0, 0, 0) else none := by
  induction k with
  | zero =>
    show (List.replicate n ((0, 0, 0, 0) : Tw))[j]? = _
    rw [List.getElem?_replicate, if_neg (by omega : ¬ (j < 0 ∧ j ≠ q))]
  | succ k ih =>
    by_cases e : k = q
    · subst e
      rw [othF_same, ih (by omega)]
      by_cases h : j < k ∧ j ≠ k
      · rw [if_pos h, if_pos ⟨by omega, h.2⟩]
      · rw [if_neg h, if_neg (show ¬ (j < k + 1 ∧ j ≠ k) by omega)]
    · rw [othF_succ n q k (by omega) e, lstT_snoc, List.getElem?_set, ih (by omega)]
      by_cases h : k = j
      · subst h
        rw [if_pos rfl, if_pos (by rw [lstT_len]; omega), if_pos (by omega)]
      · rw [if_neg h]
        by_cases h2 : j < k ∧ j ≠ q
        · rw [if_pos h2, if_pos (by omega)]
        · rw [if_neg h2, if_neg (show ¬ (j < k + 1 ∧ j ≠ q) by omega)]
theorem lstT_all (ks : List Int) (tag : Int) (tp : List Int) (n q : Nat) (v : Tw) : (lstT ks tag tp n (othF n q n)).set q v = ((List.range n).map (lotherT ks tag tp)).set q v := by
  apply List.ext_getElem?
  intro j
  rw [List.getElem?_set, List.getElem?_set, lstT_len, List.length_map, List.length_range, lstT_get ks tag tp n q (Nat.le_refl _)]
  by_cases h : q = j
  · rw [if_pos h, if_pos h]
  · rw [if_neg h, if_neg h]
    by_cases h2 : j < n
    · rw [if_pos ⟨h2, fun e => h e.symm⟩]; simp [h2]
    · rw [if_neg (show ¬ (j < n ∧ j ≠ q) by omega), if_neg h2, List.getElem?_eq_none (by rw [List.length_map, List.length_range]; omega)]
theorem enc_set4 {W : World} {B k : Nat} {L : List Tw} (h : Bx W B (cTwin L).toArray 76) (x y z u : Int) :
    Bx ((((W.setCell ⟨B, k * 4, none⟩ (.int .i64 x)).setCell ⟨B, k * 4 + 1, none⟩ (.int .i64 y)).setCell ⟨B, k * 4 + 2, none⟩ (.int .i64 z)).setCell ⟨B, k * 4 + 3, none⟩ (.int .i64 u)) B (cTwin (L.set k (x, y, z, u))).toArray 76 := by
  have h3 := (((h.set (k * 4) (.int .i64 x)).set (k * 4 + 1) (.int .i64 y)).set (k * 4 + 2) (.int .i64 z)).set (k * 4 + 3) (.int .i64 u)
  rw [List.setIfInBounds_toArray, List.setIfInBounds_toArray, List.setIfInBounds_toArray, List.setIfInBounds_toArray, cTwin_set] at h3
  exact h3
theorem bx_row4 {W : World} {g k : Nat} {L : List Tw} (h : Bx W g (cTwin L).toArray 76) (hk : k < L.length) :
    (∃ u, W.cell? ⟨g, k * 4, none⟩ = some u) ∧ (∃ u, W.cell? ⟨g, k * 4 + 1, none⟩ = some u) ∧ (∃ u, W.cell? ⟨g, k * 4 + 2, none⟩ = some u) ∧ (∃ u, W.cell? ⟨g, k * 4 + 3, none⟩ = some u) ∧ ∀ j, W.frozen? ⟨g, j, none⟩ = false := by
  have hl : (cTwin L).toArray.size = L.length * 4 := by rw [List.size_toArray, cTwin_length]
  exact ⟨⟨_, (h.cell _).trans (Array.getElem?_eq_getElem (by omega))⟩, ⟨_, (h.cell _).trans (Array.getElem?_eq_getElem (by omega))⟩, ⟨_, (h.cell _).trans (Array.getElem?_eq_getElem (by omega))⟩, ⟨_, (h.cell _).trans (Array.getElem?_eq_getElem (by omega))⟩, h.free⟩
/-- a round's stores and its call -/
theorem oth_roundT {W w2 : World} {b k : Nat} {y t z u v : Value} (hs : b + 7 ≤ W.heap.size)
    (hb2 : Below (((((W.setCell ⟨b + 1 + 1, k * 4, none⟩ y).setCell ⟨b + 1 + 1, k * 4 + 1, none⟩ t).setCell ⟨b + 1 + 1, k * 4 + 2, none⟩ z).setCell ⟨b + 1 + 1, k * 4 + 3, none⟩ u).drew).heap.size (((((W.setCell ⟨b + 1 + 1, k * 4, none⟩ y).setCell ⟨b + 1 + 1, k * 4 + 1, none⟩ t).setCell ⟨b + 1 + 1, k * 4 + 2, none⟩ z).setCell ⟨b + 1 + 1, k * 4 + 3, none⟩ u).drew) w2) :
    KeepsOthers W (w2.setCell ⟨b + 1, 0, none⟩ v) ∧ Below b W (w2.setCell ⟨b + 1, 0, none⟩ v) ∧ ∀ B cs e, B ≠ b + 1 → B ≠ b + 1 + 1 → Bx W B cs e → Bx (w2.setCell ⟨b + 1, 0, none⟩ v) B cs e := by
  have hz : (((((W.setCell ⟨b + 1 + 1, k * 4, none⟩ y).setCell ⟨b + 1 + 1, k * 4 + 1, none⟩ t).setCell ⟨b + 1 + 1, k * 4 + 2, none⟩ z).setCell ⟨b + 1 + 1, k * 4 + 3, none⟩ u).drew).heap.size = W.heap.size := by
    show ((((W.setCell ⟨b + 1 + 1, k * 4, none⟩ y).setCell ⟨b + 1 + 1, k * 4 + 1, none⟩ t).setCell ⟨b + 1 + 1, k * 4 + 2, none⟩ z).setCell ⟨b + 1 + 1, k * 4 + 3, none⟩ u).heap.size = _
    rw [World.size_setCell, World.size_setCell, World.size_setCell, World.size_setCell]
  refine ⟨(((((KeepsOthers.setCell W _ _).trans (KeepsOthers.setCell _ _ _)).trans (KeepsOthers.setCell _ _ _)).trans (KeepsOthers.setCell _ _ _)).trans (KeepsOthers.drew _)).trans ((keeps_below hb2).trans (KeepsOthers.setCell _ _ _)), ?_, ?_⟩
  · refine Below.setCell (Below.trans (Below.drew ((((((Below.refl b W).setCell (p := ⟨b + 1 + 1, k * 4, none⟩) (by simp only; omega) _).setCell (p := ⟨b + 1 + 1, k * 4 + 1, none⟩) (by simp only; omega) _).setCell (p := ⟨b + 1 + 1, k * 4 + 2, none⟩) (by simp only; omega) _)).setCell (p := ⟨b + 1 + 1, k * 4 + 3, none⟩) (by simp only; omega) _)) (hb2.mono (by rw [hz]; omega))) (by simp only; omega) _
  · intro B cs e h1 h2 h
    have hlt := h.lt
    have h3 := (((h.other ⟨b + 1 + 1, k * 4, none⟩ y (by simp only; omega)).other ⟨b + 1 + 1, k * 4 + 1, none⟩ t (by simp only; omega)).other ⟨b + 1 + 1, k * 4 + 2, none⟩ z (by simp only; omega)).other ⟨b + 1 + 1, k * 4 + 3, none⟩ u (by simp only; omega)
    refine Bx.other (Bx.below ?_ hb2 (by rw [hz]; exact hlt)) _ _ (by simp only; omega)
    exact h3
theorem stops_othT (Bk Bc Bt Bo Bf n₀ n q m nt ct : Nat) (At : Option Addr) (ks tp : List Int) (tag : Int) (hm : 1 ≤ m) (w0 w : World)
    (hF : ∀ W k c r, Below n₀ w0 W → k < n → 0 ≤ c → c ≤ 112 → 0 ≤ r → r ≤ 112 → Calls Try.prog 60 #[.int .i64 (k : Nat), .agg #[.int .i64 c, .int .i64 r], .pointer (some ⟨Bk, 0, none⟩), .pointer (some ⟨Bc, 0, none⟩)] W fun e W' => e = .returned (.agg #[.int .i64 (backI 4 (ks.getD k 0) r c), .int .i64 (backI 9 tag r c), .int .i64 c, .int .i64 r]) ∧ Below W.heap.size W W')
    (hn : n ≤ 6) (hnt : nt = 2 * n) (hT : Rd w0 n₀ 1 At nt (cI tp)) (hN : numsB tp = true) (hB : OBxT Bt Bo Bf (.slice At nt ct) q (.func (.func 60) #[] #[.pointer (some ⟨Bk, 0, none⟩), .pointer (some ⟨Bc, 0, none⟩)]) w) (hn₀ : n₀ ≤ w.heap.size) (hbel : Below n₀ w0 w) :
    SeqStopsK Fence.wide m Try.prog 116 #[.pointer (some ⟨Bt, 0, none⟩), .pointer (some ⟨Bo, 0, none⟩), .pointer (some ⟨Bf, 0, none⟩)] (fun x : Fin n => encOT (x.1, lotherT ks tag tp x.1)) (KpP n₀ (OBxT Bt Bo Bf (.slice At nt ct) q (.func (.func 60) #[] #[.pointer (some ⟨Bk, 0, none⟩), .pointer (some ⟨Bc, 0, none⟩)]))) (fun ys => ys = othF n q n) (fun _ => True) n w := fun l J Jx W hW hJ _ hY h0 =>
  i_it_othT Bk Bc Bt Bo Bf l n₀ n q m nt ct At ks tp tag hm w0 hF hn hnt hT hN J Jx W hJ hY (hB.grown hW) (Nat.le_trans hn₀ hW.size) (hbel.trans (hW.mono hn₀)) h0

set_option maxHeartbeats 1000000 in
theorem i_othersT (q : Nat) (v : Value) (Bk Bc : Nat) (w : World) (hv : ∃ A n c, v = .slice A n c) :
    Calls Try.prog 98 #[.int .i64 q, v, .func (.func 60) #[] #[.pointer (some ⟨Bk, 0, none⟩), .pointer (some ⟨Bc, 0, none⟩)]] w fun e w' => e = .returned (.func (.func 116) #[] #[.pointer (some ⟨w.heap.size + 1, 0, none⟩), .pointer (some ⟨w.heap.size, 0, none⟩), .pointer (some ⟨w.heap.size + 1 + 1, 0, none⟩)]) ∧ ((w.alloc (.cells #[.int .i64 q] 3)).alloc (.cells #[v] 22)).alloc (.cells #[.func (.func 60) #[] #[.pointer (some ⟨Bk, 0, none⟩), .pointer (some ⟨Bc, 0, none⟩)]] 121) = w' := by
  obtain ⟨A, n, c, rfl⟩ := hv
  go_enter Try.func98, Try.ntmps98
  go_wp2
  go_ret
  exact ⟨rfl, rfl⟩

set_option maxHeartbeats 4000000 in
theorem i_proofsByT (Bk Bc n q nt ct : Nat) (At : Option Addr) (ks tp : List Int) (tag : Int) (s ch : Int) (w : World)
    (hF : ∀ W k c r, Below w.heap.size w W → k < n → 0 ≤ c → c ≤ 112 → 0 ≤ r → r ≤ 112 → Calls Try.prog 60 #[.int .i64 (k : Nat), .agg #[.int .i64 c, .int .i64 r], .pointer (some ⟨Bk, 0, none⟩), .pointer (some ⟨Bc, 0, none⟩)] W fun e W' => e = .returned (.agg #[.int .i64 (backI 4 (ks.getD k 0) r c), .int .i64 (backI 9 tag r c), .int .i64 c, .int .i64 r]) ∧ Below W.heap.size W W')
    (hn : n ≤ 6) (hnt : nt = 2 * n) (hT : Rd w w.heap.size 1 At nt (cI tp)) (hN : numsB tp = true) (hq : q < n) (s0 : 0 ≤ s) (s1 : s ≤ 112) (c0 : 0 ≤ ch) (c1 : ch ≤ 112) :
    Calls Try.prog 63 #[.agg #[.int .i64 q, .int .i64 s], .int .i64 ch, .slice At nt ct, .func (.func 60) #[] #[.pointer (some ⟨Bk, 0, none⟩), .pointer (some ⟨Bc, 0, none⟩)]] w fun e w' => ∃ g, e = .returned (.slice (some ⟨g, 0, none⟩) n n) ∧ w.heap.size ≤ g ∧ Bx w' g (cTwin (((List.range n).map (lotherT ks tag tp)).set q (backI 4 (ks.getD q 0) ((tp.getD (2 * q) 0 + restK tp q ch n * s) % 113) (restK tp q ch n), backI 9 tag ((tp.getD (2 * q) 0 + restK tp q ch n * s) % 113) (restK tp q ch n), restK tp q ch n, (tp.getD (2 * q) 0 + restK tp q ch n * s) % 113))).toArray 76 ∧ Below w.heap.size w w' := by
  refine (callsIn_wide (n := 9)).1 ?_
  have hquo : (nt : Int).tdiv 2 = (n : Int) := by rw [Int.tdiv_eq_ediv_of_nonneg (by omega)]; omega
  have HFF := Lib.hid hF
  have HTP := Lib.hid hT
  have HNU := Lib.hid hN
  have HNT := Lib.hid hnt
  have hmk := fun W => run_makeN (P := Try.prog) Try.underlying34 info_Twin n (by omega) (by omega) W
  have hcs0 : madeCells (Value.agg #[.int .i64 0, .int .i64 0, .int .i64 0, .int .i64 0]).cells (n * 4) = (cTwin (lstT ks tag tp n [])).toArray := by
    apply Array.toList_inj.1; rw [show (Value.agg #[.int .i64 0, .int .i64 0, .int .i64 0, .int .i64 0]).cells = #[.int .i64 0, .int .i64 0, .int .i64 0, .int .i64 0] from rfl, made_Twin]; rfl
  rw [hcs0] at hmk
  obtain ⟨cs, hcs⟩ : ∃ cs, Hid ((cTwin (lstT ks tag tp n [])).toArray = cs) := ⟨_, Lib.hid rfl⟩
  rw [hcs.out] at hmk
  clear hF hT hN hnt hcs0
  refine callsIn_of_wp_marks Try.func63 rfl trivial ?_ rfl
  simp only [Try.ntmps63, List.size_toArray, List.length_cons, List.length_nil, Nat.reduceAdd, Nat.reduceSub, Array.replicate_succ, Array.replicate_zero, List.push_toArray, List.append_toArray, List.nil_append, List.cons_append]
  gi_wp2_with (refine ⟨trivial, ?_⟩
               gi_at_call 98
               refine (callsIn_wide.2 (i_othersT _ _ _ _ _ ⟨_, _, _, rfl⟩)).mono ?_
               rintro e w' ⟨rfl, rfl⟩)
  obtain ⟨W0, hW0⟩ : ∃ W0, Hid (((((((w.alloc (.cells #[.int .i64 q, .int .i64 s] 60)).alloc (.cells #[.int .i64 ch] 58)).alloc (.cells cs 76)).alloc (.cells #[.slice (some ⟨w.heap.size + 1 + 1, 0, none⟩) n n] 34)).alloc (.cells #[.int .i64 q] 3)).alloc (.cells #[.slice At nt ct] 22)).alloc (.cells #[.func (.func 60) #[] #[.pointer (some ⟨Bk, 0, none⟩), .pointer (some ⟨Bc, 0, none⟩)]] 121) = W0) := ⟨_, Lib.hid rfl⟩
  have bK : Bx W0 w.heap.size #[.int .i64 q, .int .i64 s] 60 := by rw [← hW0.out]; exact ((((((Bx.new w _ _).alloc _).alloc _).alloc _).alloc _).alloc _).alloc _
  have bC : Bx W0 (w.heap.size + 1) #[.int .i64 ch] 58 := by
    rw [← hW0.out]; have := (((((Bx.new (w.alloc (.cells #[.int .i64 q, .int .i64 s] 60)) #[.int .i64 ch] 58).alloc (.cells cs 76)).alloc (.cells #[.slice (some ⟨w.heap.size + 1 + 1, 0, none⟩) n n] 34)).alloc (.cells #[.int .i64 q] 3)).alloc (.cells #[.slice At nt ct] 22)).alloc (.cells #[.func (.func 60) #[] #[.pointer (some ⟨Bk, 0, none⟩), .pointer (some ⟨Bc, 0, none⟩)]] 121)
    simp only [World.size_alloc] at this; exact this
  have bR : Bx W0 (w.heap.size + 1 + 1) cs 76 := by
    rw [← hW0.out]; have := ((((Bx.new ((w.alloc (.cells #[.int .i64 q, .int .i64 s] 60)).alloc (.cells #[.int .i64 ch] 58)) cs 76).alloc (.cells #[.slice (some ⟨w.heap.size + 1 + 1, 0, none⟩) n n] 34)).alloc (.cells #[.int .i64 q] 3)).alloc (.cells #[.slice At nt ct] 22)).alloc (.cells #[.func (.func 60) #[] #[.pointer (some ⟨Bk, 0, none⟩), .pointer (some ⟨Bc, 0, none⟩)]] 121)
    simp only [World.size_alloc] at this; exact this
  have bL : Bx W0 (w.heap.size + 1 + 1 + 1) #[.slice (some ⟨w.heap.size + 1 + 1, 0, none⟩) n n] 34 := by
    rw [← hW0.out]; have := (((Bx.new (((w.alloc (.cells #[.int .i64 q, .int .i64 s] 60)).alloc (.cells #[.int .i64 ch] 58)).alloc (.cells cs 76)) #[.slice (some ⟨w.heap.size + 1 + 1, 0, none⟩) n n] 34).alloc (.cells #[.int .i64 q] 3)).alloc (.cells #[.slice At nt ct] 22)).alloc (.cells #[.func (.func 60) #[] #[.pointer (some ⟨Bk, 0, none⟩), .pointer (some ⟨Bc, 0, none⟩)]] 121)
    simp only [World.size_alloc] at this; exact this
  have hOB : OBxT (w.heap.size + 1 + 1 + 1 + 1 + 1) (w.heap.size + 1 + 1 + 1 + 1) (w.heap.size + 1 + 1 + 1 + 1 + 1 + 1) (.slice At nt ct) q (.func (.func 60) #[] #[.pointer (some ⟨Bk, 0, none⟩), .pointer (some ⟨Bc, 0, none⟩)]) W0 := by
    rw [← hW0.out]
    have h1 := (Bx.new (((((w.alloc (.cells #[.int .i64 q, .int .i64 s] 60)).alloc (.cells #[.int .i64 ch] 58)).alloc (.cells cs 76)).alloc (.cells #[.slice (some ⟨w.heap.size + 1 + 1, 0, none⟩) n n] 34)).alloc (.cells #[.int .i64 q] 3)) #[.slice At nt ct] 22).alloc (.cells #[.func (.func 60) #[] #[.pointer (some ⟨Bk, 0, none⟩), .pointer (some ⟨Bc, 0, none⟩)]] 121)
    have h2 := ((Bx.new ((((w.alloc (.cells #[.int .i64 q, .int .i64 s] 60)).alloc (.cells #[.int .i64 ch] 58)).alloc (.cells cs 76)).alloc (.cells #[.slice (some ⟨w.heap.size + 1 + 1, 0, none⟩) n n] 34)) #[.int .i64 q] 3).alloc (.cells #[.slice At nt ct] 22)).alloc (.cells #[.func (.func 60) #[] #[.pointer (some ⟨Bk, 0, none⟩), .pointer (some ⟨Bc, 0, none⟩)]] 121)
    have h3 := Bx.new ((((((w.alloc (.cells #[.int .i64 q, .int .i64 s] 60)).alloc (.cells #[.int .i64 ch] 58)).alloc (.cells cs 76)).alloc (.cells #[.slice (some ⟨w.heap.size + 1 + 1, 0, none⟩) n n] 34)).alloc (.cells #[.int .i64 q] 3)).alloc (.cells #[.slice At nt ct] 22)) #[.func (.func 60) #[] #[.pointer (some ⟨Bk, 0, none⟩), .pointer (some ⟨Bc, 0, none⟩)]] 121
    simp only [World.size_alloc] at h1 h2 h3
    exact ⟨h1, h2, h3⟩
  have hsz : W0.heap.size = w.heap.size + 7 := by rw [← hW0.out]; simp only [World.size_alloc]
  have hB0 : Below w.heap.size w W0 := by
    rw [← hW0.out]
    exact (((((((Below.refl w.heap.size w).alloc (Nat.le_refl _) _).alloc (by simp) _).alloc (by simp; omega) _).alloc (by simp; omega) _).alloc (by simp; omega) _).alloc (by simp; omega) _).alloc (by simp; omega) _
  rw [hW0.out]
  rw [← hcs.out] at bR
  clear hmk hcs hW0
  refine wpIn_rangeFunc_ownH rfl (by decide) (gf := 116) (lb := #[.pointer (some ⟨w.heap.size + 1 + 1 + 1 + 1 + 1, 0, none⟩), .pointer (some ⟨w.heap.size + 1 + 1 + 1 + 1, 0, none⟩), .pointer (some ⟨w.heap.size + 1 + 1 + 1 + 1 + 1 + 1, 0, none⟩)]) rfl trivial (enters_of Try.func116 (by kernel_rfl) rfl)
    (stops_othT Bk Bc (w.heap.size + 1 + 1 + 1 + 1 + 1) (w.heap.size + 1 + 1 + 1 + 1) (w.heap.size + 1 + 1 + 1 + 1 + 1 + 1) w.heap.size n q (9 - 1) nt ct At ks tp tag (by decide) w W0 HFF.out hn HNT.out HTP.out HNU.out hOB (by omega) hB0) KpP_t (KpP_bT (by omega)) (Below.refl _ _) (fun _ => rfl)
    (fun pre W => Bx W w.heap.size #[.int .i64 q, .int .i64 s] 60 ∧ Bx W (w.heap.size + 1) #[.int .i64 (resP tp n ch pre)] 58 ∧ Bx W (w.heap.size + 1 + 1) (cTwin (lstT ks tag tp n pre)).toArray 76 ∧ Bx W (w.heap.size + 1 + 1 + 1) #[.slice (some ⟨w.heap.size + 1 + 1, 0, none⟩) n n] 34 ∧ w.heap.size + 7 ≤ W.heap.size ∧ Below w.heap.size w W)
    (fun _ _ _ => False)
    (OwnFrom.and (bx_from _ _ _ _) (OwnFrom.and (bx_from _ _ _ _) (OwnFrom.and (bx_from _ _ _ _) (OwnFrom.and (bx_from _ _ _ _) (OwnFrom.and (fun _ _ _ _ h hg _ => Nat.le_trans h hg.size) (ownFrom_below (Nat.le_refl _) (by omega)))))))
    (fun _ _ _ _ _ hs _ _ => hs)
    ⟨bK, bC, bR, bL, by omega, hB0⟩
    (fun x a' W => ∃ (Bq : Nat) (y t z u : Int), w.heap.size + 7 ≤ Bq ∧ Hid (lotherT ks tag tp x.1 = (y, t, z, u)) ∧ Bx W Bq #[.int .i64 y, .int .i64 t, .int .i64 z, .int .i64 u] 76 ∧ a' = { tmps := #[.agg #[.int .i64 q, .int .i64 s], .int .i64 ch, .slice At nt ct, .func (.func 60) #[] #[.pointer (some ⟨Bk, 0, none⟩), .pointer (some ⟨Bc, 0, none⟩)], .pointer (some ⟨w.heap.size, 0, none⟩), .pointer (some ⟨w.heap.size + 1, 0, none⟩), undef, undef, .slice none 0 0, .pointer (some ⟨w.heap.size + 1 + 1 + 1, 0, none⟩), .int .i64 (x.1 : Nat), .pointer (some ⟨Bq, 0, none⟩), undef, .slice At nt ct, .int .i64 nt, .int .i64 n, .slice (some ⟨w.heap.size + 1 + 1, 0, none⟩) n n, .pointer (some ⟨w.heap.size, 0, none⟩), .int .i64 q, .slice At nt ct, .func (.func 60) #[] #[.pointer (some ⟨Bk, 0, none⟩), .pointer (some ⟨Bc, 0, none⟩)], .func (.func 116) #[] #[.pointer (some ⟨w.heap.size + 1 + 1 + 1 + 1 + 1, 0, none⟩), .pointer (some ⟨w.heap.size + 1 + 1 + 1 + 1, 0, none⟩), .pointer (some ⟨w.heap.size + 1 + 1 + 1 + 1 + 1 + 1, 0, none⟩)], .int .i64 (x.1 : Nat), .agg #[.int .i64 y, .int .i64 t, .int .i64 z, .int .i64 u], undef, undef, undef, undef, undef, undef, undef, undef, undef, undef, undef, undef, undef, undef, undef, undef, undef, undef, undef, undef, undef, undef, undef, undef, undef, undef, undef, undef, undef, undef], defers := [] })
    (fun x a' _ X Y row hs hg hr => by
      obtain ⟨Bq, y, t, z, u, h1, ho, h2, h3⟩ := hs
      exact ⟨Bq, y, t, z, u, h1, ho, bx_from W0.heap.size Bq (fun _ : Unit => #[.int .i64 y, .int .i64 t, .int .i64 z, .int .i64 u]) 76 () X Y row h2 hg hr, h3⟩)
    ?assign ?body ?done ?stop
  case assign =>
    rintro l pre x W K ⟨h1, h2, h3, h4, h5, hB⟩ hK
    obtain ⟨⟨y, t, z, u⟩, ho⟩ : ∃ o, Hid (lotherT ks tag tp x.1 = o) := ⟨_, Lib.hid rfl⟩
    simp only [encOT, ho.out]
    gi_wp2
    exact hK _ _ ((KeepsOthers.alloc _ _).from _) ⟨(Below.refl _ W).alloc hB.size _, fun h => ⟨h.1.alloc _, h.2.1.alloc _, h.2.2.alloc _⟩⟩ ⟨h1.alloc _, h2.alloc _, h3.alloc _, h4.alloc _, by simp only [World.size_alloc]; omega, hB.alloc hB.size _⟩ ⟨W.heap.size, y, t, z, u, h5, ho, Bx.new _ _ _, rfl⟩
  case body =>
    rintro l pre x a' W hl ⟨r, hr⟩ ⟨bK, bC, bR, bL, hs7, hB⟩ ⟨Bq, y, t, z, u, hBq, ho, bX, rfl⟩ _
    obtain ⟨j, hj⟩ := x
    have HO : Hid (lotherT ks tag tp j = (y, t, z, u)) := ho
    have hz : z = tp.getD (2 * j) 0 := by have := HO.out; unfold lotherT at this; exact (congrArg (fun p => p.2.2.1) this).symm
    have hzb := numsB_at5 HNU.out (k := 2 * j) (by have := HTP.out.len; have := HNT.out; omega)
    rw [← hz] at hzb
    obtain ⟨z0, z1⟩ := hzb
    have hcb := resP_bd tp n ch ⟨c0, c1⟩ pre
    obtain ⟨c, hc⟩ : ∃ c, Hid (resP tp n ch pre = c) := ⟨_, Lib.hid rfl⟩
    rw [hc.out] at hcb bC
    obtain ⟨cb0, cb1⟩ := hcb
    have HIN : Hid (resP tp n ch (pre ++ [⟨j, hj⟩]) = (c - z) % 113 ∧ lstT ks tag tp n (pre ++ [⟨j, hj⟩]) = (lstT ks tag tp n pre).set j (y, t, z, u)) := Lib.hid ⟨by rw [resP_snoc, hc.out, hz], by rw [lstT_snoc, ← HO.out]⟩
    have BK := Lib.hid bK
    have BR := Lib.hid bR
    have BL := Lib.hid bL
    have BB := Lib.hid hB
    have cL : W.cell? ⟨w.heap.size + 1 + 1 + 1, 0, none⟩ = some (.slice (some ⟨w.heap.size + 1 + 1, 0, none⟩) n n) := bL.cell 0
    have cX0 : W.cell? ⟨Bq, 0, none⟩ = some (.int .i64 y) := bX.cell 0
    have cX1 : W.cell? ⟨Bq, 1, none⟩ = some (.int .i64 t) := bX.cell 1
    have cX2 : W.cell? ⟨Bq, 2, none⟩ = some (.int .i64 z) := bX.cell 2
    have cX3 : W.cell? ⟨Bq, 3, none⟩ = some (.int .i64 u) := bX.cell 3
    obtain ⟨⟨xv0, xc0⟩, ⟨xv1, xc1⟩, ⟨xv2, xc2⟩, ⟨xv3, xc3⟩, xff⟩ := bx_row4 (k := j) bR (by rw [lstT_len]; exact hj)
    have xf0 := xff (j * 4)
    have xf1 := xff (j * 4 + 1)
    have xf2 := xff (j * 4 + 2)
    have xf3 := xff (j * 4 + 3)
    have i0 : (0 : Int) ≤ (j : Int) := by omega
    have i1 : (j : Int) < (n : Int) := by omega
    clear hz HO ho hc bK bR bL hB HFF HTP HNU HNT hquo
    gi_wp2
    obtain ⟨W5, hW5⟩ : ∃ W5, Hid ((((W.setCell ⟨w.heap.size + 1 + 1, j * 4, none⟩ (.int .i64 y)).setCell ⟨w.heap.size + 1 + 1, j * 4 + 1, none⟩ (.int .i64 t)).setCell ⟨w.heap.size + 1 + 1, j * 4 + 2, none⟩ (.int .i64 z)).setCell ⟨w.heap.size + 1 + 1, j * 4 + 3, none⟩ (.int .i64 u) = W5) := ⟨_, Lib.hid rfl⟩
    rw [hW5.out]
    have bC5 : Bx W5 (w.heap.size + 1) #[.int .i64 c] 58 := by rw [← hW5.out]; exact (((bC.other _ _ (by simp only; omega)).other _ _ (by simp only; omega)).other _ _ (by simp only; omega)).other _ _ (by simp only; omega)
    have bX5 : Bx W5 Bq #[.int .i64 y, .int .i64 t, .int .i64 z, .int .i64 u] 76 := by rw [← hW5.out]; exact (((bX.other _ _ (by simp only; omega)).other _ _ (by simp only; omega)).other _ _ (by simp only; omega)).other _ _ (by simp only; omega)
    have BR5 : Hid (Bx W5 (w.heap.size + 1 + 1) (cTwin ((lstT ks tag tp n pre).set j (y, t, z, u))).toArray 76) := Lib.hid (by rw [← hW5.out]; exact enc_set4 BR.out y t z u)
    have cc5 : W5.cell? ⟨w.heap.size + 1, 0, none⟩ = some (.int .i64 c) := bC5.cell 0
    have cf5 : W5.frozen? ⟨w.heap.size + 1, 0, none⟩ = false := bC5.free 0
    have cY0 : W5.cell? ⟨Bq, 0, none⟩ = some (.int .i64 y) := bX5.cell 0
    have cY1 : W5.cell? ⟨Bq, 1, none⟩ = some (.int .i64 t) := bX5.cell 1
    have cY2 : W5.cell? ⟨Bq, 2, none⟩ = some (.int .i64 z) := bX5.cell 2
    have cY3 : W5.cell? ⟨Bq, 3, none⟩ = some (.int .i64 u) := bX5.cell 3
    clear cL cX0 cX1 cX2 cX3 xc0 xc1 xc2 xc3 xff xf0 xf1 xf2 xf3 bX
    gi_region_with (first
      | rw [inv_tw]
      | rw [field_an]
      | (refine ⟨trivial, ?_⟩
         gi_at_call 138
         refine (CallsIn.inRound l (callsIn_wide.2 (i_Twin_answer y t z u _))).mono ?_
         rintro e w2 ⟨rfl, hb2⟩
         have bC2 : Bx w2 (w.heap.size + 1) #[.int .i64 c] 58 := Bx.below (show Bx W5.drew _ _ _ from bC5) hb2 bC5.lt
         have cc2 : w2.cell? ⟨w.heap.size + 1, 0, none⟩ = some (.int .i64 c) := bC2.cell 0
         have cf2 : w2.frozen? ⟨w.heap.size + 1, 0, none⟩ = false := bC2.free 0)
      | (refine ⟨trivial, ?_⟩
         gi_at_call 90
         refine (CallsIn.inRound l (callsIn_wide.2 (i_minus c z _ cb0 cb1 z0 z1))).mono ?_
         rintro e w' ⟨rfl, rfl⟩))
    all_goals
      gi_wp2
      have hr := oth_roundT (W := W) (b := w.heap.size) (k := j) (y := .int .i64 y) (t := .int .i64 t) (z := .int .i64 z) (u := .int .i64 u) (w2 := w2) (v := .int .i64 ((c - z) % 113)) hs7 (by rw [hW5.out]; exact hb2)
      have bR2 : Bx (w2.setCell ⟨w.heap.size + 1, 0, none⟩ (.int .i64 ((c - z) % 113))) (w.heap.size + 1 + 1) (cTwin ((lstT ks tag tp n pre).set j (y, t, z, u))).toArray 76 := Bx.other (Bx.below (show Bx W5.drew _ _ _ from BR5.out) hb2 BR5.out.lt) _ _ (by simp only; omega)
      exact ⟨hr.1.from _, ⟨hr.2.1, fun h => ⟨hr.2.2 _ _ _ (by omega) (by omega) h.1, hr.2.2 _ _ _ (by omega) (by omega) h.2.1, hr.2.2 _ _ _ (by omega) (by omega) h.2.2⟩⟩, hr.2.2 _ _ _ (by omega) (by omega) BK.out, by rw [HIN.out.1]; exact bC2.set 0 _, by rw [HIN.out.2]; exact bR2, hr.2.2 _ _ _ (by omega) (by omega) BL.out, Nat.le_trans hs7 hr.1.size, BB.out.trans hr.2.1⟩
  case done =>
    rintro D ys W hD rfl ⟨bK, bC, bR, bL, hs7, hB⟩ hK
    have HO_df : Hid (DfA W D) := Lib.hid hK
    have hDl : D < W.heap.size := HO_df.out.lt
    rw [resP_all tp n q ch (Nat.le_refl n)] at bC
    have hcb := restK_bd (tp := tp) (i := q) ⟨c0, c1⟩ n
    obtain ⟨c, hc⟩ : ∃ c, Hid (restK tp q ch n = c) := ⟨_, Lib.hid rfl⟩
    rw [hc.out] at hcb bC
    obtain ⟨cb0, cb1⟩ := hcb
    obtain ⟨J2, HJ⟩ : ∃ J2, Hid (J2 = 2 * q) := ⟨_, Lib.hid rfl⟩
    have hJ0 : J2 < nt := by have := HJ.out; have := HNT.out; omega
    obtain ⟨ta, t0, rfl, hbb, ht0, HT0⟩ := HTP.out.intAt hJ0
    have hta := (hB.cell (p := ta.add J2) (by rw [add_block]; exact hbb)).trans ht0
    have tb0 := numsB_at5 HNU.out (k := J2) (by have := HTP.out.len; omega)
    rw [← HT0.out] at tb0
    obtain ⟨t00, t01⟩ := tb0
    have HT1 : Hid (tp.getD (2 * q) 0 = t0) := Lib.hid (by rw [← HJ.out]; exact HT0.out.symm)
    obtain ⟨rr, hrr⟩ : ∃ r, Hid ((t0 + c * s) % 113 = r) := ⟨_, Lib.hid rfl⟩
    have rr0 : 0 ≤ rr := by rw [← hrr.out]; omega
    have rr1 : rr ≤ 112 := by rw [← hrr.out]; omega
    have HAN := fun W => Lib.hid (i_answering s t0 c W s0 s1 t00 t01 cb0 cb1)
    simp only [hrr.out] at HAN
    have HF8 : Hid (∀ W, Below w.heap.size w W → Calls Try.prog 60 #[.int .i64 (q : Nat), .agg #[.int .i64 c, .int .i64 rr], .pointer (some ⟨Bk, 0, none⟩), .pointer (some ⟨Bc, 0, none⟩)] W fun e W' => e = .returned (.agg #[.int .i64 (backI 4 (ks.getD q 0) rr c), .int .i64 (backI 9 tag rr c), .int .i64 c, .int .i64 rr]) ∧ Below W.heap.size W W') := Lib.hid (fun W hb => HFF.out W q c rr hb hq cb0 cb1 rr0 rr1)
    obtain ⟨bk, hbk⟩ : ∃ v, Hid (backI 4 (ks.getD q 0) rr c = v) := ⟨_, Lib.hid rfl⟩
    obtain ⟨bh, hbh⟩ : ∃ v, Hid (backI 9 tag rr c = v) := ⟨_, Lib.hid rfl⟩
    rw [hbk.out, hbh.out] at HF8
    have HEND : Hid ((lstT ks tag tp n (othF n q n)).set q (bk, bh, c, rr) = ((List.range n).map (lotherT ks tag tp)).set q (backI 4 (ks.getD q 0) ((tp.getD (2 * q) 0 + restK tp q ch n * s) % 113) (restK tp q ch n), backI 9 tag ((tp.getD (2 * q) 0 + restK tp q ch n * s) % 113) (restK tp q ch n), restK tp q ch n, (tp.getD (2 * q) 0 + restK tp q ch n * s) % 113)) := Lib.hid (by rw [lstT_all, HT1.out, hc.out, hrr.out, hbk.out, hbh.out])
    have HX_kn := Lib.hid bK
    have HX_ch := Lib.hid bC
    have HX_li := Lib.hid bL
    have HW := Lib.hid bR
    have HB := Lib.hid hB
    have kk0 : W.cell? ⟨w.heap.size, 0, none⟩ = some (.int .i64 q) := bK.cell 0
    have iw : IntKind.i64.wrap (2 * (q : Int)) = (J2 : Int) := by
      have := HJ.out
      have e : (J2 : Int) = 2 * (q : Int) := by omega
      rw [e]; exact IntWalk.i64_in _ (by omega)
    have i2 : (0 : Int) ≤ (J2 : Int) := by omega
    have i3 : (J2 : Int) < (nt : Int) := by omega
    have iq0 : (0 : Int) ≤ (q : Int) := by omega
    have iq1 : (q : Int) < (n : Int) := by omega
    clear hK hc ht0 HT0 HT1 hrr hbk hbh bK bC bL bR hB HFF HTP HNU HNT hquo hJ0 hbb
    gi_upto_region 8 with (fail)
    clear kk0 hta
    refine wpIn_wide.2 (wp_onlyN ?_)
    refine wp_region_held_drew (S := fun w' => w'.cell? ⟨w.heap.size, 0, none⟩ = some (.int .i64 q) ∧ w'.cell? ⟨w.heap.size, 1, none⟩ = some (.int .i64 s) ∧ w'.cell? ⟨(w.heap.size + 1), 0, none⟩ = some (.int .i64 c) ∧ w'.cell? ⟨(w.heap.size + 1 + 1 + 1), 0, none⟩ = some (.slice (some ⟨w.heap.size + 1 + 1, 0, none⟩) n n)) (by kernel_rfl) ⟨HX_kn.out.cell 0, HX_kn.out.cell 1, HX_ch.out.cell 0, HX_li.out.cell 0⟩ (fun hHeld => ?_)
    obtain ⟨u0, hu0⟩ : ∃ u0, Hid (W.drew = u0) := ⟨_, Lib.hid rfl⟩
    rw [hu0.out] at hHeld ⊢
    have zs0 : W.heap.size = u0.heap.size := by rw [← hu0.out]; rfl
    replace zs0 := Nat.le_of_eq zs0
    have HBl0 : Hid (Below w.heap.size w u0) := Lib.hid (by rw [← hu0.out]; exact HB.out.drew)
    have HX_kn0 : Hid (Bx u0 w.heap.size #[.int .i64 q, .int .i64 s] 60) := Lib.hid (by rw [← hu0.out]; exact HX_kn.out)
    have HX_ch0 : Hid (Bx u0 (w.heap.size + 1) #[.int .i64 c] 58) := Lib.hid (by rw [← hu0.out]; exact HX_ch.out)
    have HX_li0 : Hid (Bx u0 (w.heap.size + 1 + 1 + 1) #[.slice (some ⟨w.heap.size + 1 + 1, 0, none⟩) n n] 34) := Lib.hid (by rw [← hu0.out]; exact HX_li.out)
    have HO_df0 : Hid (DfA u0 D) := Lib.hid (by rw [← hu0.out]; exact HO_df.out)
    have HW0 : Hid (Bx u0 (w.heap.size + 1 + 1) (cTwin (lstT ks tag tp n (othF n q n))).toArray 76) := Lib.hid (by rw [← hu0.out]; exact HW.out)
    clear hu0
    refine wpAnyH_take (i := 0) (oi := { dst := some 40, op := Op.load 34 (Operand.tmp 9), type := 34, pos := "l15_either.go:50", after := #[], guard := none }) (v := ?_) rfl (by kernel_rfl) (by kernel_rfl) (by kernel_rfl) (fun _ _ _ h => h) (Or.inl ⟨by rfl, ?_⟩) hHeld ?_
    rotate_left
    · intro w hSw; obtain ⟨s0, s1, s2, s3⟩ := hSw; (try dsimp only at hSw); go_simp; (try with_reducible rfl)
    try simp only [Act.put, List.setIfInBounds_toArray, List.set_cons_zero, List.set_cons_succ]
    refine wpAnyH_take (i := 1) (oi := { dst := some 41, op := Op.fieldAddr 60 (Operand.tmp 4) 0, type := 0, pos := "l15_either.go:50", after := #[], guard := none }) (v := ?_) rfl (by kernel_rfl) (by kernel_rfl) (by kernel_rfl) (fun _ _ _ h => h) (Or.inl ⟨by rfl, ?_⟩) hHeld ?_
    rotate_left
    · intro w hSw; obtain ⟨s0, s1, s2, s3⟩ := hSw; (try dsimp only at hSw); go_simp; (try with_reducible rfl)
    try simp only [Act.put, List.setIfInBounds_toArray, List.set_cons_zero, List.set_cons_succ]
    refine wpAnyH_take (i := 2) (oi := { dst := some 42, op := Op.load 3 (Operand.tmp 41), type := 3, pos := "l15_either.go:50", after := #[{ on := 1, ground := Ground.data }], guard := none }) (v := ?_) rfl (by kernel_rfl) (by kernel_rfl) (by kernel_rfl) (fun _ _ _ h => h) (Or.inl ⟨by rfl, ?_⟩) hHeld ?_
    rotate_left
    · intro w hSw; obtain ⟨s0, s1, s2, s3⟩ := hSw; (try dsimp only at hSw); go_simp; (try with_reducible rfl)
    try simp only [Act.put, List.setIfInBounds_toArray, List.set_cons_zero, List.set_cons_succ]
    refine wpAnyH_take (i := 3) (oi := { dst := some 43, op := Op.move (Operand.tmp 3), type := 121, pos := "l15_either.go:50", after := #[], guard := none }) (v := ?_) rfl (by kernel_rfl) (by kernel_rfl) (by kernel_rfl) (fun _ _ _ h => h) (Or.inl ⟨by rfl, ?_⟩) hHeld ?_
    rotate_left
    · intro w hSw; obtain ⟨s0, s1, s2, s3⟩ := hSw; (try dsimp only at hSw); go_simp; (try with_reducible rfl)
    try simp only [Act.put, List.setIfInBounds_toArray, List.set_cons_zero, List.set_cons_succ]
    refine wpAnyH_take (i := 4) (oi := { dst := some 44, op := Op.fieldAddr 60 (Operand.tmp 4) 0, type := 0, pos := "l15_either.go:50", after := #[], guard := none }) (v := ?_) rfl (by kernel_rfl) (by kernel_rfl) (by kernel_rfl) (fun _ _ _ h => h) (Or.inl ⟨by rfl, ?_⟩) hHeld ?_
    rotate_left
    · intro w hSw; obtain ⟨s0, s1, s2, s3⟩ := hSw; (try dsimp only at hSw); go_simp; (try with_reducible rfl)
    try simp only [Act.put, List.setIfInBounds_toArray, List.set_cons_zero, List.set_cons_succ]
    refine wpAnyH_take (i := 5) (oi := { dst := some 45, op := Op.load 3 (Operand.tmp 44), type := 3, pos := "l15_either.go:50", after := #[{ on := 4, ground := Ground.data }], guard := none }) (v := ?_) rfl (by kernel_rfl) (by kernel_rfl) (by kernel_rfl) (fun _ _ _ h => h) (Or.inl ⟨by rfl, ?_⟩) hHeld ?_
    rotate_left
    · intro w hSw; obtain ⟨s0, s1, s2, s3⟩ := hSw; (try dsimp only at hSw); go_simp; (try with_reducible rfl)
    try simp only [Act.put, List.setIfInBounds_toArray, List.set_cons_zero, List.set_cons_succ]
    refine wpAnyH_take (i := 6) (oi := { dst := some 46, op := Op.fieldAddr 60 (Operand.tmp 4) 1, type := 0, pos := "l15_either.go:50", after := #[], guard := none }) (v := ?_) rfl (by kernel_rfl) (by kernel_rfl) (by kernel_rfl) (fun _ _ _ h => h) (Or.inl ⟨by rfl, ?_⟩) hHeld ?_
    rotate_left
    · intro w hSw; obtain ⟨s0, s1, s2, s3⟩ := hSw; (try dsimp only at hSw); go_simp; (try with_reducible rfl)
    try simp only [Act.put, List.setIfInBounds_toArray, List.set_cons_zero, List.set_cons_succ]
    refine wpAnyH_take (i := 7) (oi := { dst := some 47, op := Op.load 58 (Operand.tmp 46), type := 58, pos := "l15_either.go:50", after := #[{ on := 6, ground := Ground.data }], guard := none }) (v := ?_) rfl (by kernel_rfl) (by kernel_rfl) (by kernel_rfl) (fun _ _ _ h => h) (Or.inl ⟨by rfl, ?_⟩) hHeld ?_
    rotate_left
    · intro w hSw; obtain ⟨s0, s1, s2, s3⟩ := hSw; (try dsimp only at hSw); go_simp; (try with_reducible rfl)
    try simp only [Act.put, List.setIfInBounds_toArray, List.set_cons_zero, List.set_cons_succ]
    refine wpAnyH_take (i := 8) (oi := { dst := some 48, op := Op.move (Operand.tmp 12), type := 58, pos := "l15_either.go:50", after := #[], guard := none }) (v := ?_) rfl (by kernel_rfl) (by kernel_rfl) (by kernel_rfl) (fun _ _ _ h => h) (Or.inl ⟨by rfl, ?_⟩) hHeld ?_
    rotate_left
    · intro w hSw; obtain ⟨s0, s1, s2, s3⟩ := hSw; (try dsimp only at hSw); go_simp; (try with_reducible rfl)
    try simp only [Act.put, List.setIfInBounds_toArray, List.set_cons_zero, List.set_cons_succ]
    refine wpAnyH_take (i := 9) (oi := { dst := some 49, op := Op.load 58 (Operand.tmp 5), type := 58, pos := "l15_either.go:50", after := #[], guard := none }) (v := ?_) rfl (by kernel_rfl) (by kernel_rfl) (by kernel_rfl) (fun _ _ _ h => h) (Or.inl ⟨by rfl, ?_⟩) hHeld ?_
    rotate_left
    · intro w hSw; obtain ⟨s0, s1, s2, s3⟩ := hSw; (try dsimp only at hSw); go_simp; (try with_reducible rfl)
    try simp only [Act.put, List.setIfInBounds_toArray, List.set_cons_zero, List.set_cons_succ]
    refine wpAnyH_ready (rs := [10]) (by kernel_rfl) (by simp) ?_
    refine AllReadyH.cons (o := { dst := some 50, op := Op.call { callee := Callee.value (Operand.func 91), args := #[Operand.tmp 47, Operand.tmp 48, Operand.tmp 49], argTypes := #[58, 58, 58] }, type := 64, pos := "l15_either.go:50", after := #[{ on := 7, ground := Ground.data }, { on := 8, ground := Ground.data }, { on := 9, ground := Ground.data }], guard := none }) rfl (fun K hK => ?_) ?_
    · go_simp
      refine ((HAN u0).out).mono ?_
      rintro e u1 ⟨rfl, hb_⟩
      have zs1 : u0.heap.size ≤ u1.heap.size := hb_.size
      have HBl1 : Hid (Below w.heap.size w u1) := Lib.hid (HBl0.out.trans (hb_.mono HBl0.out.size))
      have HX_kn1 : Hid (Bx u1 w.heap.size #[.int .i64 q, .int .i64 s] 60) := Lib.hid (HX_kn0.out.below hb_ HX_kn0.out.lt)
      have HX_ch1 : Hid (Bx u1 (w.heap.size + 1) #[.int .i64 c] 58) := Lib.hid (HX_ch0.out.below hb_ HX_ch0.out.lt)
      have HX_li1 : Hid (Bx u1 (w.heap.size + 1 + 1 + 1) #[.slice (some ⟨w.heap.size + 1 + 1, 0, none⟩) n n] 34) := Lib.hid (HX_li0.out.below hb_ HX_li0.out.lt)
      have HO_df1 := Lib.hid (HO_df0.out.below hb_ (by omega))
      have HW1 : Hid (Bx u1 (w.heap.size + 1 + 1) (cTwin (lstT ks tag tp n (othF n q n))).toArray 76) := Lib.hid (HW0.out.below hb_ HW0.out.lt)
      clear hHeld hb_ HBl0 HX_kn0 HX_ch0 HX_li0 HO_df0 HW0
      (try dsimp only)
      (try go_wp2_with fail)
      refine hK.out _ _ ⟨HX_kn1.out.cell 0, HX_kn1.out.cell 1, HX_ch1.out.cell 0, HX_li1.out.cell 0⟩ (fun hHeld => ?_)
      clear hK K
      try simp only [Act.put, List.setIfInBounds_toArray, List.set_cons_zero, List.set_cons_succ]
      refine wpAnyH_ready (rs := [11]) (by kernel_rfl) (by simp) ?_
      refine AllReadyH.cons (o := { dst := some 51, op := Op.call { callee := Callee.value (Operand.tmp 43), args := #[Operand.tmp 45, Operand.tmp 50], argTypes := #[3, 64] }, type := 76, pos := "l15_either.go:50", after := #[{ on := 3, ground := Ground.data }, { on := 5, ground := Ground.data }, { on := 10, ground := Ground.data }, { on := 10, ground := Ground.chain }], guard := none }) rfl (fun K hK => ?_) ?_
      · go_simp
        refine ((HF8.out u1 HBl1.out)).mono ?_
        rintro e u2 ⟨rfl, hb_⟩
        have zs2 : u1.heap.size ≤ u2.heap.size := hb_.size
        have HBl2 : Hid (Below w.heap.size w u2) := Lib.hid (HBl1.out.trans (hb_.mono HBl1.out.size))
        have HX_kn2 : Hid (Bx u2 w.heap.size #[.int .i64 q, .int .i64 s] 60) := Lib.hid (HX_kn1.out.below hb_ HX_kn1.out.lt)
        have HX_ch2 : Hid (Bx u2 (w.heap.size + 1) #[.int .i64 c] 58) := Lib.hid (HX_ch1.out.below hb_ HX_ch1.out.lt)
        have HX_li2 : Hid (Bx u2 (w.heap.size + 1 + 1 + 1) #[.slice (some ⟨w.heap.size + 1 + 1, 0, none⟩) n n] 34) := Lib.hid (HX_li1.out.below hb_ HX_li1.out.lt)
        have HO_df2 := Lib.hid (HO_df1.out.below hb_ (by omega))
        have HW2 : Hid (Bx u2 (w.heap.size + 1 + 1) (cTwin (lstT ks tag tp n (othF n q n))).toArray 76) := Lib.hid (HW1.out.below hb_ HW1.out.lt)
        clear hHeld hb_ HBl1 HX_kn1 HX_ch1 HX_li1 HO_df1 HW1
        (try dsimp only)
        (try go_wp2_with fail)
        refine hK.out _ _ ⟨HX_kn2.out.cell 0, HX_kn2.out.cell 1, HX_ch2.out.cell 0, HX_li2.out.cell 0⟩ (fun hHeld => ?_)
        clear hK K
        try simp only [Act.put, List.setIfInBounds_toArray, List.set_cons_zero, List.set_cons_succ]
        refine wpAnyH_take (i := 12) (oi := { dst := some 52, op := Op.indexAddr 34 (Operand.tmp 40) (Operand.tmp 42), type := 0, pos := "l15_either.go:50", after := #[{ on := 0, ground := Ground.data }, { on := 2, ground := Ground.data }, { on := 0, ground := Ground.phase }, { on := 1, ground := Ground.phase }, { on := 2, ground := Ground.phase }, { on := 3, ground := Ground.phase }, { on := 4, ground := Ground.phase }, { on := 5, ground := Ground.phase }, { on := 6, ground := Ground.phase }, { on := 7, ground := Ground.phase }, { on := 8, ground := Ground.phase }, { on := 9, ground := Ground.phase }, { on := 10, ground := Ground.phase }, { on := 11, ground := Ground.phase }], guard := none }) (v := ?_) rfl (by kernel_rfl) (by kernel_rfl) (by kernel_rfl) (fun _ _ _ h => h) (Or.inl ⟨by rfl, ?_⟩) hHeld ?_
        rotate_left
        · intro w hSw; obtain ⟨s0, s1, s2, s3⟩ := hSw; (try dsimp only at hSw); go_simp; (try with_reducible rfl)
        try simp only [Act.put, List.setIfInBounds_toArray, List.set_cons_zero, List.set_cons_succ]
        refine wpAnyH_ready (rs := [13]) (by kernel_rfl) (by simp) ?_
        refine AllReadyH.cons (o := { dst := none, op := Op.store 76 (Operand.tmp 52) (Operand.tmp 51), type := 0, pos := "l15_either.go:50", after := #[{ on := 12, ground := Ground.data }, { on := 11, ground := Ground.data }, { on := 11, ground := Ground.chain }, { on := 0, ground := Ground.phase }, { on := 1, ground := Ground.phase }, { on := 2, ground := Ground.phase }, { on := 3, ground := Ground.phase }, { on := 4, ground := Ground.phase }, { on := 5, ground := Ground.phase }, { on := 6, ground := Ground.phase }, { on := 7, ground := Ground.phase }, { on := 8, ground := Ground.phase }, { on := 9, ground := Ground.phase }, { on := 10, ground := Ground.phase }, { on := 11, ground := Ground.phase }], guard := none }) rfl (fun K hK => ?_) ?_
        · obtain ⟨⟨xv0, xc0⟩, ⟨xv1, xc1⟩, ⟨xv2, xc2⟩, ⟨xv3, xc3⟩, xff⟩ := bx_row4 HW2.out (by rw [lstT_len]; exact hq)
          have xf0 := xff (q * 4)
          have xf1 := xff (q * 4 + 1)
          have xf2 := xff (q * 4 + 2)
          have xf3 := xff (q * 4 + 3)
          go_simp
          obtain ⟨u3, hw3⟩ : ∃ W, Hid (((((u2.setCell ⟨w.heap.size + 1 + 1, q * 4, none⟩ (.int .i64 bk)).setCell ⟨w.heap.size + 1 + 1, q * 4 + 1, none⟩ (.int .i64 bh)).setCell ⟨w.heap.size + 1 + 1, q * 4 + 2, none⟩ (.int .i64 c)).setCell ⟨w.heap.size + 1 + 1, q * 4 + 3, none⟩ (.int .i64 rr)) = W) := ⟨_, Lib.hid rfl⟩
          rw [hw3.out]
          have hk3 : Kept (w.heap.size + 1 + 1) (w.heap.size + 1 + 1 + 1) u2 u3 := by rw [← hw3.out]; exact ((((Kept.refl _ _ _).setCell (p := ⟨w.heap.size + 1 + 1, q * 4, none⟩) (Nat.le_refl _) (Nat.lt_succ_self _) _).setCell (p := ⟨w.heap.size + 1 + 1, q * 4 + 1, none⟩) (Nat.le_refl _) (Nat.lt_succ_self _) _).setCell (p := ⟨w.heap.size + 1 + 1, q * 4 + 2, none⟩) (Nat.le_refl _) (Nat.lt_succ_self _) _).setCell (p := ⟨w.heap.size + 1 + 1, q * 4 + 3, none⟩) (Nat.le_refl _) (Nat.lt_succ_self _) _
          have zs3 : u2.heap.size ≤ u3.heap.size := hk3.size
          have HBl3 : Hid (Below w.heap.size w u3) := Lib.hid (by rw [← hw3.out]; exact ((((HBl2.out).setCell (p := ⟨w.heap.size + 1 + 1, q * 4, none⟩) (by simp only; omega) _).setCell (p := ⟨w.heap.size + 1 + 1, q * 4 + 1, none⟩) (by simp only; omega) _).setCell (p := ⟨w.heap.size + 1 + 1, q * 4 + 2, none⟩) (by simp only; omega) _).setCell (p := ⟨w.heap.size + 1 + 1, q * 4 + 3, none⟩) (by simp only; omega) _)
          have HW3 : Hid (Bx u3 (w.heap.size + 1 + 1) (cTwin ((lstT ks tag tp n (othF n q n)).set q (bk, bh, c, rr))).toArray 76) := Lib.hid (by rw [← hw3.out]; exact enc_set4 HW2.out bk bh c rr)
          have HX_kn3 : Hid (Bx u3 w.heap.size #[.int .i64 q, .int .i64 s] 60) := Lib.hid (HX_kn2.out.kept hk3 (by omega))
          have HX_ch3 : Hid (Bx u3 (w.heap.size + 1) #[.int .i64 c] 58) := Lib.hid (HX_ch2.out.kept hk3 (by omega))
          have HX_li3 : Hid (Bx u3 (w.heap.size + 1 + 1 + 1) #[.slice (some ⟨w.heap.size + 1 + 1, 0, none⟩) n n] 34) := Lib.hid (HX_li2.out.kept hk3 (by omega))
          have HO_df3 := Lib.hid (HO_df2.out.kept hk3 (by omega) (by omega))
          clear hHeld hw3 hk3 xff xc0 xf0 xc1 xf1 xc2 xf2 xc3 xf3 HBl2 HX_kn2 HX_ch2 HX_li2 HO_df2 HW2
          refine hK.out _ _ ⟨HX_kn3.out.cell 0, HX_kn3.out.cell 1, HX_ch3.out.cell 0, HX_li3.out.cell 0⟩ (fun hHeld => ?_)
          clear hK K
          try simp only [Act.put]
          refine wpAnyH_done (by kernel_rfl) ?_ _
          simp only [OnlyN]
          have xL : u3.cell? ⟨w.heap.size + 1 + 1 + 1, 0, none⟩ = some (.slice (some ⟨w.heap.size + 1 + 1, 0, none⟩) n n) := HX_li3.out.cell 0
          gi_wp2
          refine ⟨by simp, .inl ⟨_, _, rfl, run_takeDeferred HO_df3.out, ?_⟩⟩
          refine ⟨_, results_tmp rfl _ _ _, w.heap.size + 1 + 1, rfl, by omega, ?_, HBl3.out.trans (belowK_b (w := w) (Nat.le_refl _) u3 D _ _ (by omega) HO_df3.out rfl rfl)⟩
          rw [← HEND.out]
          exact bx_putObj HW3.out HO_df3.out rfl
        exact AllReadyH.nil
      exact AllReadyH.nil
    exact AllReadyH.nil
  case stop =>
    rintro D c pre W _ _ h _
    exact h.elim
end Go.Proofs.Ytdhakbpimbadgaa
