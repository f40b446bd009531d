/- Chapter 3 in the program: the equations reduced. -/
import Derived.Test.YtbnobkojkfmccaaWalk4c
import Derived.Deep.Cut
import Derived.WalkMore
import Derived.Deep.LoopGhost
namespace Go.Proofs.Ytbnobkojkfmccaa
open Go.RowKit
set_option maxRecDepth 100000

theorem infoR : (Try.prog.info? 110).map (fun i => (i.zero, i.size, i.bytes)) = some (some (.agg z9), 9, 72) := by kernel_rfl
theorem made_rows (n : Nat) : (madeCells z9 (n * 9)).toList = cR (List.replicate n (List.replicate 9 0)) := by
  have h0 : ∀ (k : Nat), (madeCells z9 k).toList = List.replicate k (.int .i64 0) := by
    intro k
    apply List.ext_getElem?
    intro j
    by_cases hj : j < k
    · have h2 : j % 9 = 0 ∨ j % 9 = 1 ∨ j % 9 = 2 ∨ j % 9 = 3 ∨ j % 9 = 4 ∨ j % 9 = 5 ∨ j % 9 = 6 ∨ j % 9 = 7 ∨ j % 9 = 8 := by omega
      rcases h2 with h2 | h2 | h2 | h2 | h2 | h2 | h2 | h2 | h2 <;> simp [madeCells, hj, h2, z9]
    · simp [madeCells, hj]
  rw [h0]
  induction n with
  | zero => rfl
  | succ n ih =>
    rw [List.replicate_succ, cR_cons, ← ih, show (n + 1) * 9 = 9 + n * 9 by omega, ← List.replicate_append_replicate]
    rfl
/-- the first k rows filled, the others zero -/
def fillR (d : List (List Int)) (r : List Int) (m n : Nat) : Nat → List (List Int)
  | 0 => List.replicate n (List.replicate 9 0)
  | k + 1 => (fillR d r m n k).set k (E9 m (d.getD k [] ++ [r.getD k 0]))
theorem fillR_length (d : List (List Int)) (r : List Int) (m n k : Nat) : (fillR d r m n k).length = n := by
  induction k with
  | zero => simp [fillR]
  | succ k ih => rw [fillR, List.length_set, ih]
theorem fillR_W9 (d : List (List Int)) (r : List Int) (m n k : Nat) : W9 (fillR d r m n k) := by
  induction k with
  | zero =>
    intro i hi
    simp only [fillR, List.length_replicate] at hi ⊢
    simp only [List.getD_eq_getElem?_getD, List.getElem?_replicate, if_pos hi]; rfl
  | succ k ih => rw [fillR]; exact ih.set k (E9_length _ _)
theorem fillR_get (d : List (List Int)) (r : List Int) (m n k j : Nat) (hk : k ≤ n) (hj : j < k) : (fillR d r m n k).getD j [] = E9 m (d.getD j [] ++ [r.getD j 0]) := by
  induction k with
  | zero => omega
  | succ k ih =>
    rw [fillR, getD_set1 _ _ _ _ _ (by rw [fillR_length]; omega)]
    by_cases h : k = j
    · rw [if_pos h, h]
    · rw [if_neg h]; exact ih (by omega) (by omega)
theorem fillR_all (d : List (List Int)) (r : List Int) (m n : Nat) : fillR d r m n n = (augR d r n).map (E9 m) := by
  refine ext_getD' (by rw [fillR_length]; simp [augR]) fun j hj => ?_
  rw [fillR_length] at hj
  rw [fillR_get _ _ _ _ _ _ (Nat.le_refl _) hj, map_getD _ _ j [] [] (by simp [augR]; exact hj)]
  congr 1
  simp [augR, hj]
theorem W9.map {D : List (List Int)} {m : Nat} : W9 (D.map (E9 m)) := fun k hk => by
  rw [map_getD _ _ k [] [] (by simpa using hk)]; exact E9_length _ _
theorem N9.map {D : List (List Int)} {m n L : Nat} (h : Shp D n L) : N9 (D.map (E9 m)) := fun k hk => by
  have hk2 : k < D.length := by simpa using hk
  rw [map_getD _ _ k [] [] hk2]; exact nums_E9 (h.2 k (by rw [← h.1]; exact hk2)).2
/-- a step with a pivot -/
theorem redStep_take {D : List (List Int)} {T : List Int} {n m c p : Nat} (hD : Shp D n (m + 1)) (hm : m ≤ 8) (hc : c < m) (hk : T.length < n) (hp : pivAt D c n (n - T.length) T.length = p) (hpn : p < n) :
    takeP (D.map (E9 m)) c T.length p n = (redStep n (m + 1) (D, T) c).1.map (E9 m) ∧ (redStep n (m + 1) (D, T) c).2 = T ++ [(c : Int)] := by
  rw [takeP_is hD hm hc hk hpn, redStep]
  dsimp only
  rw [hp, if_neg (by omega)]
  exact ⟨rfl, rfl⟩
theorem redStep_none {D : List (List Int)} {T : List Int} {n L c : Nat} (hp : pivAt D c n (n - T.length) T.length = n) : redStep n L (D, T) c = (D, T) := by
  rw [redStep, if_pos hp]
theorem own_apart2 {w : World} {B e n s : Nat} {v : Value} {xs : List Value} (h : w.ownsRow B e s v n xs) {g : Nat} (hg : w.heap.size ≤ g) : v.ownBlock ≠ some g := fun e => by have := own_size h e; omega
theorem info3 : (Try.prog.info? 71).map (·.size) = some 3 := by kernel_rfl
/-- a system as a result -/
theorem res3 {fn : Func} {t : Tmp} {tmps : Array Value} {w : World} {g : Nat} {a b c : Value} (h : fn.results = #[.cell t 71]) (ht : tmps.getD t undef = .pointer (some ⟨g, 0, none⟩)) (hb : w.heap[g]? = some (.cells #[a, b, c] 71 (0, 0))) :
    (results fn tmps).run Try.prog w = .ok (.agg #[a, b, c]) w := by
  have hr : w.rangeAt g 0 [a, b, c] := fun j v hv => by
    rw [Nat.zero_add, cell_of_row w g j _ _ (0, 0) hb]; simpa using hv
  have := run_loadVar_mid (P := Try.prog) w g 0 71 [a, b, c] _ hr Try.underlying71 rfl info3
  have ht2 : tmps[t]?.getD undef = .pointer (some ⟨g, 0, none⟩) := by rw [← ht]; simp
  simp [results, h, ht2, this, asAddr]

set_option maxHeartbeats 4000000 in
theorem i_reduced (A A' : Option Addr) (n c c' m : Nat) (vs : List Value) (d : List (List Int)) (r : List Int) (w : World) (h : RdR w w.heap.size A n vs d) (h' : Rd w w.heap.size 1 A' n (cI r)) (hM : Mat d m) (hx : Nums r) :
    Calls Try.prog 55 #[.slice A n c, .slice A' n c'] w fun e w' => ∃ (g0 : Nat) (At Ad : Option Addr) (kt ct kd cd : Nat), e = .returned (.agg (sysC g0 n n (.slice At kt ct) (.slice Ad kd cd))) ∧ w.heap.size ≤ g0 ∧
      Ow w' g0 (g0 + 1) 110 9 (some ⟨g0, 0, none⟩) n n (cR ((redOf d r m).1.map (E9 m))) ∧ w'.ownsRow w.heap.size 3 1 (.slice At kt ct) kt (cI (redOf d r m).2) ∧ w'.ownsRow w.heap.size 3 1 (.slice Ad kd cd) kd (cI (depC (augR d r n) n (m + 1) m)) ∧ Below w.heap.size w w' := by
  have hlen := Lib.hid h.2.1
  have hlx := Lib.hid h'.len
  have H := Lib.hid h
  have H' := Lib.hid h'
  have n8 : n ≤ 8 := by have := hM.rows.2; have := h.2.1; omega
  have n1 : 1 ≤ n := by have := hM.rows.1; have := h.2.1; omega
  have m8 : m ≤ 8 := hM.cols.2
  have m1 : 1 ≤ m := hM.cols.1
  have HM := Lib.hid hM
  have HX := Lib.hid hx
  have HRO : Hid (redOf d r m = redC (augR d r n) n (m + 1) m) := Lib.hid (by unfold redOf; rw [h.2.1])
  clear h h' hM hx
  obtain ⟨B, hB⟩ : ∃ B, B = w.heap.size := ⟨_, rfl⟩
  obtain ⟨W3, hW3⟩ : ∃ W3, W3 = (((w.alloc (.cells #[.slice none 0 0, .slice none 0 0, .slice none 0 0] 71)).alloc (.cells (madeCells z9 (n * 9)) 110)).alloc (.cells (sysC (w.heap.size + 1) n n (.slice none 0 0) (.slice none 0 0)) 71)) := ⟨_, rfl⟩
  have HB3 : Hid (Below w.heap.size w W3) := Lib.hid (by
    rw [hW3]; exact (((Below.refl _ _).alloc (Nat.le_refl _) _).alloc (by simp) _).alloc (by simp; omega) _)
  have HZ3 : Hid (W3.heap[w.heap.size]? = some (.cells #[.slice none 0 0, .slice none 0 0, .slice none 0 0] 71 (0, 0))) := Lib.hid (by
    rw [hW3, Below.heap_alloc _ _ _ (by simp; omega), Below.heap_alloc _ _ _ (by simp)]; exact heap_alloc_new _ _)
  have HO3 : Hid (Ow W3 (w.heap.size + 1) (w.heap.size + 1 + 1) 110 9 (some ⟨w.heap.size + 1, 0, none⟩) n n (cR (fillR d r m n 0))) := Lib.hid (by
    have h1 := Ow.new (w.alloc (.cells #[.slice none 0 0, .slice none 0 0, .slice none 0 0] 71)) (madeCells z9 (n * 9)) 110 9 n (by simp [madeCells])
    rw [made_rows, World.size_alloc] at h1
    rw [hW3]
    exact h1.below ((Below.refl _ _).alloc (Nat.le_refl _) _) (by simp))
  have HG3 : Hid (W3.heap[w.heap.size + 2]? = some (.cells (sysC (w.heap.size + 1) n n (.slice none 0 0) (.slice none 0 0)) 71 (0, 0))) := Lib.hid (by
    have h1 := heap_alloc_new ((w.alloc (.cells #[.slice none 0 0, .slice none 0 0, .slice none 0 0] 71)).alloc (.cells (madeCells z9 (n * 9)) 110)) (.cells (sysC (w.heap.size + 1) n n (.slice none 0 0) (.slice none 0 0)) 71)
    rw [World.size_alloc, World.size_alloc] at h1
    rw [hW3]; exact h1)
  have hmk := fun W => run_makeN (P := Try.prog) Try.underlying69 infoR n (by omega) (by omega) W
  go_enter Try.func55, Try.ntmps55
  go_wp2
  go_step3
  go_wp2
  clear hmk
  go_loopw [16] (fun i wr => ∃ k : Nat, k ≤ n ∧ i = .int .i64 k ∧ Hid (Ow wr (w.heap.size + 1) (w.heap.size + 1 + 1) 110 9 (some ⟨w.heap.size + 1, 0, none⟩) n n (cR (fillR d r m n k))) ∧ Hid (wr.heap[w.heap.size + 2]? = some (.cells (sysC (w.heap.size + 1) n n (.slice none 0 0) (.slice none 0 0)) 71 (0, 0))) ∧ Hid (wr.heap[w.heap.size]? = some (.cells #[.slice none 0 0, .slice none 0 0, .slice none 0 0] 71 (0, 0))) ∧ Hid (Below w.heap.size w wr)) (fun i _ => n - (intOf i).toNat)
  case atStart => exact ⟨0, Nat.zero_le _, rfl, by rw [hW3] at HO3; exact HO3, by rw [hW3] at HG3; exact HG3, by rw [hW3] at HZ3; exact HZ3, by rw [hW3] at HB3; exact HB3⟩
  case round =>
    clear HO3 HG3 HZ3 HB3 hW3
    obtain ⟨i, hi, rfl, HO, HG, HZ, HB⟩ := hrel
    by_cases hlt : i < n
    · obtain ⟨a, Ai, ni, ci, rfl, hab, hci0, hri, _, hmi⟩ := H.out.row hlt
      obtain rfl : ni = m := by have := HM.out.len i (by have := hlen.out; omega); omega
      have hci := (HB.out.cell (p := a.add i) (by rw [add_block]; exact hab)).trans hci0
      have HRI : Hid (Rd wr wr.heap.size 1 Ai ni (cI (d.getD i []))) := Lib.hid (by
        obtain ⟨A2, n2, c2, e, _, q⟩ := hri
        injection e with e1 e2 e3; subst e1; subst e2; subst e3
        exact (q.below HB.out).more HB.out.size)
      obtain ⟨ax, q, rfl, hax, hcq0, HQ⟩ := H'.out.intAt hlt
      have HCQ : Hid (wr.cell? (ax.add i) = some (.int .i64 q)) := Lib.hid ((HB.out.cell (p := ax.add i) (by rw [add_block]; exact hax)).trans hcq0)
      have ls : w.heap.size + 2 < wr.heap.size := block_lt HG.out
      have hlq : (ax.add i).block < wr.heap.size := by rw [add_block]; omega
      clear hci0 hri hmi hcq0
      have i0 : (0 : Int) ≤ (i : Int) := by omega
      have i1 : (i : Int) < (n : Int) := by omega
      go_upto_region 5 with (fail)
      obtain ⟨SS, hSS⟩ : ∃ SS : World → Prop, SS = fun w' => w'.cell? ⟨w.heap.size + 2, 0, none⟩ = some (.slice (some ⟨w.heap.size + 1, 0, none⟩) n n) ∧ w'.cell? (ax.add i) = some (.int .i64 q) ∧ KeptS (fun q => q = w.heap.size + 1) wr w' := ⟨_, rfl⟩
      have hSB0 : ∀ W W', SS W → KeptS (fun q => q = w.heap.size + 1) W W' → SS W' := fun W W' hs hb => by
        rw [hSS] at hs ⊢
        have hz := hs.2.2.size
        exact ⟨(hb.cell (p := ⟨w.heap.size + 2, 0, none⟩) (by dsimp only; omega) (by dsimp only; omega)).trans hs.1, (hb.cell (p := ax.add i) (by omega) (by rw [add_block]; omega)).trans hs.2.1, hs.2.2.trans hb⟩
      have hSB : ∀ W W', SS W → Below W.heap.size W W' → SS W' := fun W W' hs hb => hSB0 W W' hs (KeptS.of_below hb)
      have hS9 : ∀ W W', SS W → Kept (w.heap.size + 1) (w.heap.size + 1 + 1) W W' → SS W' := fun W W' hs hk => hSB0 W W' hs (KeptS.of_kept hk rfl)
      have hS0 : SS wr.drew := by rw [hSS]; exact ⟨block_cell (w := wr) HG.out rfl, HCQ.out, (KeptS.refl _ _).drew⟩
      refine wp_region_held_drew (S := SS) (by kernel_rfl) hS0 (fun hHeld => ?_)
      refine wpAnyH_take (i := 0) (oi := { dst := some 21, op := Op.fieldAddr 71 (Operand.tmp 5) 0, type := 0, pos := "l3_systems.go:45", after := #[], guard := none }) (v := ?_) rfl (by kernel_rfl) (by kernel_rfl) (by kernel_rfl) (fun _ _ _ h => h) (Or.inl ⟨by rfl, ?_⟩) hHeld ?_
      rotate_left
      · intro w hSw; rw [hSS] at hSw; obtain ⟨hq1, hq2, hq3⟩ := hSw; clear hq3; (try dsimp only at hSw); go_simp; (try with_reducible rfl)
      try simp only [Act.put, List.setIfInBounds_toArray, List.set_cons_zero, List.set_cons_succ]
      refine wpAnyH_take (i := 1) (oi := { dst := some 22, op := Op.load 69 (Operand.tmp 21), type := 69, pos := "l3_systems.go:45", after := #[{ on := 0, ground := Ground.data }], guard := none }) (v := ?_) rfl (by kernel_rfl) (by kernel_rfl) (by kernel_rfl) (fun _ _ _ h => h) (Or.inl ⟨by rfl, ?_⟩) hHeld ?_
      rotate_left
      · intro w hSw; rw [hSS] at hSw; obtain ⟨hq1, hq2, hq3⟩ := hSw; clear hq3; (try dsimp only at hSw); go_simp; (try with_reducible rfl)
      try simp only [Act.put, List.setIfInBounds_toArray, List.set_cons_zero, List.set_cons_succ]
      refine wpAnyH_take (i := 2) (oi := { dst := some 23, op := Op.move (Operand.tmp 6), type := 3, pos := "l3_systems.go:45", after := #[], guard := none }) (v := ?_) rfl (by kernel_rfl) (by kernel_rfl) (by kernel_rfl) (fun _ _ _ h => h) (Or.inl ⟨by rfl, ?_⟩) hHeld ?_
      rotate_left
      · intro w hSw; rw [hSS] at hSw; obtain ⟨hq1, hq2, hq3⟩ := hSw; clear hq3; (try dsimp only at hSw); go_simp; (try with_reducible rfl)
      try simp only [Act.put, List.setIfInBounds_toArray, List.set_cons_zero, List.set_cons_succ]
      refine wpAnyH_take (i := 3) (oi := { dst := some 24, op := Op.move (Operand.tmp 7), type := 27, pos := "l3_systems.go:45", after := #[], guard := none }) (v := ?_) rfl (by kernel_rfl) (by kernel_rfl) (by kernel_rfl) (fun _ _ _ h => h) (Or.inl ⟨by rfl, ?_⟩) hHeld ?_
      rotate_left
      · intro w hSw; rw [hSS] at hSw; obtain ⟨hq1, hq2, hq3⟩ := hSw; clear hq3; (try dsimp only at hSw); go_simp; (try with_reducible rfl)
      try simp only [Act.put, List.setIfInBounds_toArray, List.set_cons_zero, List.set_cons_succ]
      refine wpAnyH_take (i := 4) (oi := { dst := some 25, op := Op.move (Operand.tmp 1), type := 27, pos := "l3_systems.go:45", after := #[], guard := none }) (v := ?_) rfl (by kernel_rfl) (by kernel_rfl) (by kernel_rfl) (fun _ _ _ h => h) (Or.inl ⟨by rfl, ?_⟩) hHeld ?_
      rotate_left
      · intro w hSw; rw [hSS] at hSw; obtain ⟨hq1, hq2, hq3⟩ := hSw; clear hq3; (try dsimp only at hSw); go_simp; (try with_reducible rfl)
      try simp only [Act.put, List.setIfInBounds_toArray, List.set_cons_zero, List.set_cons_succ]
      refine wpAnyH_take (i := 5) (oi := { dst := some 26, op := Op.move (Operand.tmp 6), type := 3, pos := "l3_systems.go:45", after := #[], guard := none }) (v := ?_) rfl (by kernel_rfl) (by kernel_rfl) (by kernel_rfl) (fun _ _ _ h => h) (Or.inl ⟨by rfl, ?_⟩) hHeld ?_
      rotate_left
      · intro w hSw; rw [hSS] at hSw; obtain ⟨hq1, hq2, hq3⟩ := hSw; clear hq3; (try dsimp only at hSw); go_simp; (try with_reducible rfl)
      try simp only [Act.put, List.setIfInBounds_toArray, List.set_cons_zero, List.set_cons_succ]
      refine wpAnyH_take (i := 6) (oi := { dst := some 27, op := Op.indexAddr 27 (Operand.tmp 25) (Operand.tmp 26), type := 0, pos := "l3_systems.go:45", after := #[{ on := 4, ground := Ground.data }, { on := 5, ground := Ground.data }], guard := none }) (v := ?_) rfl (by kernel_rfl) (by kernel_rfl) (by kernel_rfl) (fun _ _ _ h => h) (Or.inl ⟨by rfl, ?_⟩) hHeld ?_
      rotate_left
      · intro w hSw; rw [hSS] at hSw; obtain ⟨hq1, hq2, hq3⟩ := hSw; clear hq3; (try dsimp only at hSw); go_simp; (try with_reducible rfl)
      try simp only [Act.put, List.setIfInBounds_toArray, List.set_cons_zero, List.set_cons_succ]
      refine wpAnyH_take (i := 7) (oi := { dst := some 28, op := Op.load 3 (Operand.tmp 27), type := 3, pos := "l3_systems.go:45", after := #[{ on := 6, ground := Ground.data }], guard := none }) (v := ?_) rfl (by kernel_rfl) (by kernel_rfl) (by kernel_rfl) (fun _ _ _ h => h) (Or.inl ⟨by rfl, ?_⟩) hHeld ?_
      rotate_left
      · intro w hSw; rw [hSS] at hSw; obtain ⟨hq1, hq2, hq3⟩ := hSw; clear hq3; (try dsimp only at hSw); go_simp; (try with_reducible rfl)
      try simp only [Act.put, List.setIfInBounds_toArray, List.set_cons_zero, List.set_cons_succ]
      refine wpAnyH_ready (rs := [8]) (by kernel_rfl) (by simp) ?_
      refine AllReadyH.cons (o := { dst := some 29, op := Op.call { callee := Callee.value (Operand.func 90), args := #[Operand.tmp 24, Operand.tmp 28], argTypes := #[27, 3] }, type := 110, pos := "l3_systems.go:45", after := #[{ on := 3, ground := Ground.data }, { on := 7, ground := Ground.data }], guard := none }) rfl (fun K hK => ?_) ?_
      · go_simp
        refine (i_rowOf _ _ _ _ _ _ ((HRI.out.below (by rw [hSS] at hHeld; exact ⟨rfl, rfl, rfl, Nat.le_refl _, fun _ _ => rfl⟩)).more (by simp)) m8).mono ?_
        rintro e w7 ⟨rfl, hb7⟩
        have hS7 := hSB _ _ hHeld hb7
        have HBL7 : Hid (Below wr.heap.size wr w7) := Lib.hid ((below_drew (Below.refl _ _)).trans hb7)
        clear hHeld
        go_wp2_with fail
        refine hK.out _ _ hS7 (fun hHeld => ?_)
        clear hK K
        try simp only [Act.put, List.setIfInBounds_toArray, List.set_cons_zero, List.set_cons_succ]
        refine wpAnyH_take (i := 9) (oi := { dst := some 30, op := Op.indexAddr 69 (Operand.tmp 22) (Operand.tmp 23), type := 0, pos := "l3_systems.go:45", after := #[{ on := 1, ground := Ground.data }, { on := 2, ground := Ground.data }, { on := 0, ground := Ground.phase }, { on := 1, ground := Ground.phase }, { on := 2, ground := Ground.phase }, { on := 3, ground := Ground.phase }, { on := 4, ground := Ground.phase }, { on := 5, ground := Ground.phase }, { on := 6, ground := Ground.phase }, { on := 7, ground := Ground.phase }, { on := 8, ground := Ground.phase }], guard := none }) (v := ?_) rfl (by kernel_rfl) (by kernel_rfl) (by kernel_rfl) (fun _ _ _ h => h) (Or.inl ⟨by rfl, ?_⟩) hHeld ?_
        rotate_left
        · intro w hSw; rw [hSS] at hSw; obtain ⟨hq1, hq2, hq3⟩ := hSw; clear hq3; (try dsimp only at hSw); go_simp; (try with_reducible rfl)
        try simp only [Act.put, List.setIfInBounds_toArray, List.set_cons_zero, List.set_cons_succ]
        refine wpAnyH_ready (rs := [10]) (by kernel_rfl) (by simp) ?_
        refine AllReadyH.cons (o := { dst := none, op := Op.store 110 (Operand.tmp 30) (Operand.tmp 29), type := 0, pos := "l3_systems.go:45", after := #[{ on := 9, ground := Ground.data }, { on := 8, ground := Ground.data }, { on := 8, ground := Ground.chain }, { on := 0, ground := Ground.phase }, { on := 1, ground := Ground.phase }, { on := 2, ground := Ground.phase }, { on := 3, ground := Ground.phase }, { on := 4, ground := Ground.phase }, { on := 5, ground := Ground.phase }, { on := 6, ground := Ground.phase }, { on := 7, ground := Ground.phase }, { on := 8, ground := Ground.phase }], guard := none }) rfl (fun K hK => ?_) ?_
        · have HO8 := HO.out.below HBL7.out (by omega)
          obtain ⟨w9, hst9, ho9, hk9, hz9⟩ := HO8.stR (P := Try.prog) (fillR_W9 _ _ _ _ _) (k := i) (x := E9 ni (d.getD i [] ++ [q])) (by rw [fillR_length]; exact hlt) (E9_length _ _)
          refine step_store9 rfl (.tmp 30) (.tmp 29) rfl rfl rfl (E9_length _ _) hst9 ?_
          refine hK.out _ _ (hS9 _ _ hHeld hk9) (fun hHeld => ?_)
          clear hK K
          try simp only [Act.put]
          refine wpAnyH_done (by kernel_rfl) ?_ _
          have K9 : KeptS (fun q => q = w.heap.size + 1) wr w9 := (KeptS.of_below HBL7.out).trans (KeptS.of_kept hk9 rfl)
          have HO9 : Hid (Ow w9 (w.heap.size + 1) (w.heap.size + 1 + 1) 110 9 (some ⟨w.heap.size + 1, 0, none⟩) n n (cR (fillR d r ni n (i + 1)))) := Lib.hid (by rw [fillR, ← HQ.out]; exact ho9)
          have HG9 := Lib.hid (K9.heap HG.out (by omega))
          have HZ9 := Lib.hid (K9.heap HZ.out (by omega))
          have HB9 : Hid (Below w.heap.size w w9) := Lib.hid (HB.out.trans (K9.to_below (by omega) (fun k e => by omega)))
          clear K9 hHeld
          go_wp2
          go_roundw
          case rel => exact ⟨i + 1, by omega, by go_num, HO9, HG9, HZ9, HB9⟩
          case measure => simp [intOf] <;> omega
        exact AllReadyH.nil
      exact AllReadyH.nil
    · obtain rfl : n = i := by omega
      have HO1 : Hid (Ow wr (w.heap.size + 1) (w.heap.size + 1 + 1) 110 9 (some ⟨w.heap.size + 1, 0, none⟩) n n (cR ((redC (augR d r n) n (m + 1) 0).1.map (E9 m)))) := Lib.hid (by rw [redC, ← fillR_all]; exact HO.out)
      have HSH := Lib.hid (Shp.aug HM.out hlen.out HX.out)
      have HT1 : Hid (wr.ownsRow w.heap.size 3 1 (.slice none 0 0) 0 (cI (redC (augR d r n) n (m + 1) 0).2)) := Lib.hid (World.ownsRow_nil _ _ _ _)
      have HD1 : Hid (wr.ownsRow w.heap.size 3 1 (.slice none 0 0) 0 (cI (depC (augR d r n) n (m + 1) 0))) := Lib.hid (World.ownsRow_nil _ _ _ _)
      obtain ⟨a, A0, nm, c0, rfl, hab, hc00, hr0, _, hm0⟩ := H.out.row (show 0 < n by omega)
      have HC0 : Hid (w.cell? a = some (.slice A0 nm c0)) := Lib.hid hc00
      obtain rfl : nm = m := by have := HM.out.len 0 (by have := hlen.out; omega); omega
      have hc0 := (HB.out.cell (p := a) hab).trans HC0.out
      clear HO hc00 hr0 hm0
      go_wp2
      go_step3
      go_wp2
      clear hc0
      go_loopg [8, 9, 36] nm (fun gh _ _ cv wr => ∃ (cc : Nat) (At Ad : Option Addr) (kt ct kd cd : Nat), gh = nm - cc ∧ cc ≤ nm ∧ cv = .int .i64 cc ∧ Hid ((redC (augR d r n) n (nm + 1) cc).2.length = kt) ∧ kt ≤ n ∧
        Hid (Ow wr (w.heap.size + 1) (w.heap.size + 1 + 1) 110 9 (some ⟨w.heap.size + 1, 0, none⟩) n n (cR ((redC (augR d r n) n (nm + 1) cc).1.map (E9 nm)))) ∧
        Hid (wr.heap[w.heap.size + 2]? = some (.cells (sysC (w.heap.size + 1) n n (.slice At kt ct) (.slice Ad kd cd)) 71 (0, 0))) ∧ Hid (wr.heap[w.heap.size]? = some (.cells #[.slice none 0 0, .slice none 0 0, .slice none 0 0] 71 (0, 0))) ∧
        Hid (wr.ownsRow w.heap.size 3 1 (.slice At kt ct) kt (cI (redC (augR d r n) n (nm + 1) cc).2)) ∧ Hid (wr.ownsRow w.heap.size 3 1 (.slice Ad kd cd) kd (cI (depC (augR d r n) n (nm + 1) cc))) ∧
        Hid (∀ g, Value.ownBlock (.slice At kt ct) = some g → Value.ownBlock (.slice Ad kd cd) ≠ some g) ∧ Hid (Below w.heap.size w wr))
      case atStart => exact ⟨0, _, _, 0, 0, 0, 0, rfl, Nat.zero_le _, rfl, Lib.hid rfl, Nat.zero_le _, HO1, HG, HZ, HT1, HD1, Lib.hid (fun g e => by simp [Value.ownBlock] at e), HB⟩
      case round =>
        clear HO1 HG HZ HT1 HD1 HB
        obtain ⟨cc, At, Ad, kt, ct, kd, cd, rfl, hcc, rfl, HTL, hkt, HO, HG, HZ, HT, HD, HAP, HB⟩ := hrel
        have hc0 := (HB.out.cell (p := a) hab).trans HC0.out
        by_cases hlt2 : cc < nm
        · have hs1 : wr.cell? ⟨w.heap.size + 2, 1, none⟩ = some (.slice At kt ct) := block_cell HG.out rfl
          have HINV := Lib.hid (redC_inv HSH.out cc)
          have HLD : Hid ((redC (augR d r n) n (nm + 1) cc).1.length = n) := Lib.hid HINV.out.1.1
          obtain ⟨wq, rfl⟩ : ∃ wq : World, wq = wr := ⟨_, rfl⟩
          have lB : w.heap.size + 2 < wq.heap.size := block_lt HG.out
          go_wp2
          clear hs1 hc0
          go_loopg [9] (n - kt) (fun gi iv wr => ∃ p : Nat, gi = n - p ∧ kt ≤ p ∧ p ≤ n ∧ iv = .int .i64 p ∧ Hid (pivAt (redC (augR d r n) n (nm + 1) cc).1 cc n (n - p) p = pivAt (redC (augR d r n) n (nm + 1) cc).1 cc n (n - kt) kt) ∧ wr = wq)
          case atStart => exact ⟨kt, rfl, Nat.le_refl _, hkt, rfl, Lib.hid rfl, rfl⟩
          case round =>
            obtain ⟨p, rfl, hp0, hp1, rfl, HPV, rfl⟩ := hrel
            by_cases hp : p < n
            · obtain ⟨z, hcz, HZQ⟩ := HO.out.atR W9.map (k := p) (by rw [List.length_map, HLD.out]; exact hp) (show cc < 9 by omega)
              have HZ2 : Hid (z = ((redC (augR d r n) n (nm + 1) cc).1.getD p []).getD cc 0) := Lib.hid (by
                rw [HZQ.out, map_getD _ _ p [] [] (by rw [HLD.out]; exact hp), E9_lt m8 hlt2])
              have hs0 : wr.cell? ⟨w.heap.size + 2, 0, none⟩ = some (.slice (some ⟨w.heap.size + 1, 0, none⟩) n n) := block_cell HG.out rfl
              clear HZQ
              have i0 : (0 : Int) ≤ (p : Int) := by omega
              have i1 : (p : Int) < (n : Int) := by omega
              have i2 : (0 : Int) ≤ (cc : Int) := by omega
              have i3 : (cc : Int) < 9 := by omega
              by_cases hz0 : z = 0
              · subst hz0
                have HPV2 : Hid (pivAt (redC (augR d r n) n (nm + 1) cc).1 cc n (n - (p + 1)) (p + 1) = pivAt (redC (augR d r n) n (nm + 1) cc).1 cc n (n - kt) kt) := Lib.hid (by
                  rw [← HPV.out, show n - p = (n - (p + 1)) + 1 by omega, pivAt, if_pos hp, if_pos HZ2.out.symm])
                go_wp2
                go_roundg (n - (p + 1))
                case measure => omega
                case rel => exact ⟨p + 1, rfl, by omega, by omega, by go_num, HPV2, rfl⟩
              · have hzb : (z != 0) = true := by simp [hz0]
                have hkn : kt < n := by omega
                have HP2 : Hid (pivAt (redC (augR d r n) n (nm + 1) cc).1 cc n (n - kt) kt = p) := Lib.hid (by
                  rw [← HPV.out, show n - p = (n - (p + 1)) + 1 by omega, pivAt, if_pos hp, if_neg (fun e => hz0 (HZ2.out.trans e))])
                have HST := Lib.hid (redStep_take (p := p) HINV.out.1 m8 hlt2 (by rw [HTL.out]; exact hkn) (by rw [HTL.out]; exact HP2.out) hp)
                rw [HTL.out] at HST
                go_wp2_with fail
                refine (i_take (w.heap.size + 2) (w.heap.size + 1) n n kt ct cc p w.heap.size At (.slice Ad kd cd) _ _ wr HG.out HO.out W9.map (N9.map HINV.out.1) HT.out (by omega) (by omega) hkn hp (by omega) n8).mono ?_
                rintro e w5 ⟨A1, c1, rfl, hg5, ho5, ht5, hk5, hap5⟩
                have hnT0 := own_other HT.out HZ.out (by decide)
                have hDne : ∀ g, Value.ownBlock (.slice Ad kd cd) = some g → ¬ (g = w.heap.size + 1 ∨ g = w.heap.size + 2 ∨ Value.ownBlock (.slice At kt ct) = some g) := fun g e hh => by
                  rcases hh with rfl | rfl | hh
                  · obtain ⟨cs, hb0⟩ := HO.out.blockOf (by omega)
                    exact own_other HD.out hb0 (by decide) e
                  · exact own_other HD.out HG.out (by decide) e
                  · exact HAP.out g hh e
                have HO5 : Hid (Ow w5 (w.heap.size + 1) (w.heap.size + 1 + 1) 110 9 (some ⟨w.heap.size + 1, 0, none⟩) n n (cR ((redC (augR d r n) n (nm + 1) (cc + 1)).1.map (E9 nm)))) := Lib.hid (by rw [redC, ← HST.out.1]; exact ho5)
                have HT5 : Hid (w5.ownsRow w.heap.size 3 1 (.slice A1 (kt + 1) c1) (kt + 1) (cI (redC (augR d r n) n (nm + 1) (cc + 1)).2)) := Lib.hid (by rw [redC, HST.out.2]; exact ht5)
                have HTL5 : Hid ((redC (augR d r n) n (nm + 1) (cc + 1)).2.length = kt + 1) := Lib.hid (by rw [redC, HST.out.2, List.length_append, HTL.out]; rfl)
                have HD5 : Hid (w5.ownsRow w.heap.size 3 1 (.slice Ad kd cd) kd (cI (depC (augR d r n) n (nm + 1) (cc + 1)))) := Lib.hid (by
                  rw [depC, HTL.out, if_neg (by rw [HP2.out]; omega)]
                  exact hk5.own HD.out hDne)
                have HG5 := Lib.hid hg5
                have HZ5 := Lib.hid (hk5.heap HZ.out (fun hh => by rcases hh with h1 | h1 | h1; omega; omega; exact hnT0 h1))
                have HAP5 : Hid (∀ g, Value.ownBlock (.slice A1 (kt + 1) c1) = some g → Value.ownBlock (.slice Ad kd cd) ≠ some g) := Lib.hid (fun g e => by
                  rcases hap5 with h1 | ⟨b, h1, h2⟩
                  · exact HAP.out g (h1.symm.trans e)
                  · rw [h2] at e; injection e with e; subst e
                    exact own_apart2 HD.out h1)
                have HB5 : Hid (Below w.heap.size w w5) := Lib.hid (HB.out.trans (hk5.to_below (by omega) (fun k hh => by
                  rcases hh with rfl | rfl | hh
                  · omega
                  · omega
                  · exact own_block HT.out _ hh)))
                clear HO HG HZ HT HD HAP HB hg5 ho5 ht5 hk5 hap5 hDne HTL hnT0
                go_wp2
                go_roundg (nm - (cc + 1))
                case measure => omega
                case rel => exact ⟨cc + 1, A1, Ad, kt + 1, c1, kd, cd, rfl, by omega, by go_num, HTL5, by omega, HO5, HG5, HZ5, HT5, HD5, HAP5, HB5⟩
            · obtain rfl : p = n := by omega
              have hPN : Hid (pivAt (redC (augR d r p) p (nm + 1) cc).1 cc p (p - kt) kt = p) := Lib.hid (by rw [← HPV.out]; simp [pivAt])
              have hR1 : Hid (redC (augR d r p) p (nm + 1) (cc + 1) = redC (augR d r p) p (nm + 1) cc) := Lib.hid (by rw [redC, redStep, HTL.out, if_pos hPN.out])
              have hD1 : Hid (depC (augR d r p) p (nm + 1) (cc + 1) = depC (augR d r p) p (nm + 1) cc ++ [(cc : Int)]) := Lib.hid (by rw [depC, HTL.out, if_pos hPN.out])
              have hkd : kd ≤ 8 := by
                have h1 := depC_len (augR d r p) p (nm + 1) cc
                have h2 := HD.out.1
                rw [cI_length] at h2
                omega
              have hs2 : wr.cell? ⟨w.heap.size + 2, 2, none⟩ = some (.slice Ad kd cd) := block_cell HG.out rfl
              have HDa : Hid ((wr.alloc (Obj.cells #[Value.int .i64 (cc : Int)] 3)).ownsRow w.heap.size 3 1 (.slice Ad kd cd) kd (cI (depC (augR d r p) p (nm + 1) cc))) := Lib.hid (HD.out.alloc _)
              have HRa : Hid (Rd (wr.alloc (Obj.cells #[Value.int .i64 (cc : Int)] 3)) (wr.heap.size + 1) 1 (some ⟨wr.heap.size, 0, none⟩) 1 (cI [(cc : Int)])) := Lib.hid (by
                have := (Ow.new wr #[Value.int .i64 (cc : Int)] 3 1 1 rfl).rd; exact this)
              have hza : w.heap.size ≤ (wr.alloc (Obj.cells #[Value.int .i64 (cc : Int)] 3)).heap.size := by simp; omega
              have HDs : Hid (Value.ownBlock (.slice Ad kd cd) ≠ some (w.heap.size + 2)) := Lib.hid (own_other HD.out HG.out (by decide))
              have HD0 : Hid (Value.ownBlock (.slice Ad kd cd) ≠ some w.heap.size) := Lib.hid (own_other HD.out HZ.out (by decide))
              have HDr : Hid (Value.ownBlock (.slice Ad kd cd) ≠ some (w.heap.size + 1)) := Lib.hid (by obtain ⟨cs, hb0⟩ := HO.out.blockOf (by omega); exact own_other HD.out hb0 (by decide))
              have HTs : Hid (Value.ownBlock (.slice At kt ct) ≠ some (w.heap.size + 2)) := Lib.hid (own_other HT.out HG.out (by decide))
              go_wp2_with (at_builtin
                           refine wpList_append_rd rfl (.tmp 60) (.tmp 62) _ rfl w.heap.size 3 _ 1 8 Try.underlying27 info_int rfl (by decide) (.slice Ad kd cd) kd (cI (depC (augR d r p) p (nm + 1) cc)) rfl HDa.out _ _ 1 1 (cI [(cc : Int)]) rfl HRa.out (cI_one _) (by unfold maxLen; omega) (by omega) hza ?_
                           intro v1 w10 hown hgr hat
                           obtain ⟨A1, c1, hv1, ho1⟩ := Ow.of_own hown
                           subst hv1
                           have HOWN := Lib.hid hown
                           have HGR := Lib.hid hgr
                           have HAT := Lib.hid hat
                           have HG10 : Hid (w10.heap[w.heap.size + 2]? = some (.cells (sysC (w.heap.size + 1) p p (.slice At kt ct) (.slice Ad kd cd)) 71 (0, 0))) := Lib.hid (by
                             rw [hgr.block _ (by simp; omega) (fun e => HDs.out e.symm), Below.heap_alloc _ _ _ lB]; exact HG.out)
                           have hc10 : w10.cell? ⟨w.heap.size + 2, 2, none⟩ = some (.slice Ad kd cd) := block_cell HG10.out rfl
                           have hf10 : w10.frozen? ⟨w.heap.size + 2, 2, none⟩ = false := block_free HG10.out
                           clear hown hgr hat ho1 hs2)
              have kset : Kept (w.heap.size + 2) (w.heap.size + 2 + 1) w10 (w10.setCell ⟨w.heap.size + 2, 2, none⟩ (.slice A1 (kd + 1) c1)) := (Kept.refl _ _ _).setCell (p := ⟨w.heap.size + 2, 2, none⟩) (Nat.le_refl _) (Nat.lt_succ_self _) _
              have K10 : KeptS (fun k => k = w.heap.size + 2 ∨ Value.ownBlock (.slice Ad kd cd) = some k) wr (w10.setCell ⟨w.heap.size + 2, 2, none⟩ (.slice A1 (kd + 1) c1)) :=
                ((KeptS.of_below ((Below.refl _ _).alloc (Nat.le_refl _) _)).trans (KeptS.of_grown HGR.out (fun g e => .inr e))).trans (KeptS.of_kept kset (.inl rfl))
              have HG6 : Hid ((w10.setCell ⟨w.heap.size + 2, 2, none⟩ (.slice A1 (kd + 1) c1)).heap[w.heap.size + 2]? = some (.cells (sysC (w.heap.size + 1) p p (.slice At kt ct) (.slice A1 (kd + 1) c1)) 71 (0, 0))) := Lib.hid (heap_setCell_same w10 (w.heap.size + 2) 2 _ _ _ HG10.out)
              have HZ6 := Lib.hid (K10.heap HZ.out (fun hh => by rcases hh with h1 | h1; omega; exact HD0.out h1))
              have HO6 : Hid (Ow (w10.setCell ⟨w.heap.size + 2, 2, none⟩ (.slice A1 (kd + 1) c1)) (w.heap.size + 1) (w.heap.size + 1 + 1) 110 9 (some ⟨w.heap.size + 1, 0, none⟩) p p (cR ((redC (augR d r p) p (nm + 1) (cc + 1)).1.map (E9 nm)))) := Lib.hid (by
                rw [hR1.out]
                exact K10.ow HO.out (fun k h1 h2 hh => by rcases hh with h3 | h3; omega; exact HDr.out (by rw [show w.heap.size + 1 = k by omega]; exact h3)))
              have HT6 : Hid ((w10.setCell ⟨w.heap.size + 2, 2, none⟩ (.slice A1 (kd + 1) c1)).ownsRow w.heap.size 3 1 (.slice At kt ct) kt (cI (redC (augR d r p) p (nm + 1) (cc + 1)).2)) := Lib.hid (by
                rw [hR1.out]
                exact K10.own HT.out (fun g e hh => by rcases hh with h3 | h3; exact HTs.out (by rw [← h3]; exact e); exact HAP.out g e h3))
              have HTL6 : Hid ((redC (augR d r p) p (nm + 1) (cc + 1)).2.length = kt) := Lib.hid (by rw [hR1.out]; exact HTL.out)
              have HD6 : Hid ((w10.setCell ⟨w.heap.size + 2, 2, none⟩ (.slice A1 (kd + 1) c1)).ownsRow w.heap.size 3 1 (.slice A1 (kd + 1) c1) (kd + 1) (cI (depC (augR d r p) p (nm + 1) (cc + 1)))) := Lib.hid (by
                rw [hD1.out, cI_append]
                exact (KeptS.of_kept (S := fun q => q = w.heap.size + 2) kset rfl).own HOWN.out (fun g e hh => own_other HOWN.out HG10.out (by decide) (by rw [← hh]; exact e)))
              have HAP6 : Hid (∀ g, Value.ownBlock (.slice At kt ct) = some g → Value.ownBlock (.slice A1 (kd + 1) c1) ≠ some g) := Lib.hid (fun g e e2 => by
                rcases HAT.out with h1 | h1
                · exact HAP.out g e (h1.symm.trans e2)
                · rw [h1] at e2; injection e2 with e2
                  exact own_apart2 HT.out (g := g) (by rw [← e2]; simp) e)
              have HB6 : Hid (Below w.heap.size w (w10.setCell ⟨w.heap.size + 2, 2, none⟩ (.slice A1 (kd + 1) c1))) := Lib.hid (HB.out.trans (K10.to_below (by omega) (fun k hh => by
                rcases hh with rfl | hh
                · omega
                · exact own_block HD.out _ hh)))
              clear HO HG HZ HT HD HAP HB kset K10 HGR HAT HOWN HG10 HDa HRa
              go_roundg (nm - (cc + 1))
              case measure => omega
              case rel => exact ⟨cc + 1, At, A1, kt, ct, kd + 1, c1, rfl, by omega, by go_num, HTL6, hkt, HO6, HG6, HZ6, HT6, HD6, HAP6, HB6⟩
        · obtain rfl : cc = nm := by omega
          have hq0 : wr.cell? ⟨w.heap.size + 2, 0, none⟩ = some (.slice (some ⟨w.heap.size + 1, 0, none⟩) n n) := block_cell HG.out rfl
          have hq1 : wr.cell? ⟨w.heap.size + 2, 1, none⟩ = some (.slice At kt ct) := block_cell HG.out rfl
          have hq2 : wr.cell? ⟨w.heap.size + 2, 2, none⟩ = some (.slice Ad kd cd) := block_cell HG.out rfl
          have hr0 : wr.cell? ⟨w.heap.size, 0, none⟩ = some (.slice none 0 0) := block_cell HZ.out rfl
          have hr1 : wr.cell? ⟨w.heap.size, 1, none⟩ = some (.slice none 0 0) := block_cell HZ.out rfl
          have hr2 : wr.cell? ⟨w.heap.size, 2, none⟩ = some (.slice none 0 0) := block_cell HZ.out rfl
          have hf0 : wr.frozen? ⟨w.heap.size, 0, none⟩ = false := block_free HZ.out
          have hf1 : wr.frozen? ⟨w.heap.size, 1, none⟩ = false := block_free HZ.out
          have hf2 : wr.frozen? ⟨w.heap.size, 2, none⟩ = false := block_free HZ.out
          have HBK := Lib.hid (heap_setCell_same _ w.heap.size 2 _ _ (.slice Ad kd cd) (heap_setCell_same _ w.heap.size 1 _ _ (.slice At kt ct) (heap_setCell_same wr w.heap.size 0 _ _ (.slice (some ⟨w.heap.size + 1, 0, none⟩) n n) HZ.out)))
          have K7 : KeptS (fun q => q = w.heap.size) wr (((wr.setCell ⟨w.heap.size, 0, none⟩ (.slice (some ⟨w.heap.size + 1, 0, none⟩) n n)).setCell ⟨w.heap.size, 1, none⟩ (.slice At kt ct)).setCell ⟨w.heap.size, 2, none⟩ (.slice Ad kd cd)) :=
            KeptS.of_kept ((((Kept.refl w.heap.size (w.heap.size + 1) wr).setCell (p := ⟨w.heap.size, 0, none⟩) (Nat.le_refl _) (Nat.lt_succ_self _) _).setCell (p := ⟨w.heap.size, 1, none⟩) (Nat.le_refl _) (Nat.lt_succ_self _) _).setCell (p := ⟨w.heap.size, 2, none⟩) (Nat.le_refl _) (Nat.lt_succ_self _) _) rfl
          have HK7 := Lib.hid K7
          have HTn : Hid (Value.ownBlock (.slice At kt ct) ≠ some w.heap.size) := Lib.hid (own_other HT.out HZ.out (by decide))
          have HDn : Hid (Value.ownBlock (.slice Ad kd cd) ≠ some w.heap.size) := Lib.hid (own_other HD.out HZ.out (by decide))
          clear K7
          go_wp2
          try rw [Exit.noGoto_ret]
          refine bodyPost_ret (v := .agg (sysC (w.heap.size + 1) n n (.slice At kt ct) (.slice Ad kd cd))) (res3 rfl rfl HBK.out) rfl ⟨w.heap.size + 1, At, Ad, kt, ct, kd, cd, rfl, by omega, ?_, ?_, ?_, ?_⟩
          · rw [HRO.out]; exact HK7.out.ow HO.out (fun k h1 h2 e => by omega)
          · rw [HRO.out]; exact HK7.out.own HT.out (fun g e hh => HTn.out (by rw [← hh]; exact e))
          · exact HK7.out.own HD.out (fun g e hh => HDn.out (by rw [← hh]; exact e))
          · exact HB.out.trans (HK7.out.to_below HB.out.size (fun k e => by omega))
end Go.Proofs.Ytbnobkojkfmccaa
