/- Lists of lists of ints: what reads, what is owned. -/
import Derived.Test.YtbnobkojkfmccaaFaceI
import Derived.StillTailTactics
namespace Go.Proofs.Ytbnobkojkfmccaa
open Go.RowKit
set_option maxRecDepth 100000

/-- the sum of the lengths of the first k rows -/
def lensK (d : List (List Int)) : Nat → Nat
  | 0 => 0
  | k + 1 => lensK d k + (d.getD k []).length
theorem lensK_mono (d : List (List Int)) {i j : Nat} (h : i ≤ j) : lensK d i ≤ lensK d j := by
  induction j with
  | zero => rw [show i = 0 by omega]; exact Nat.le_refl _
  | succ j ih =>
    by_cases hc : i = j + 1
    · rw [hc]; exact Nat.le_refl _
    · have := ih (by omega); rw [lensK]; omega
theorem lensK_row (d : List (List Int)) {k n : Nat} (h : k < n) : (d.getD k []).length ≤ lensK d n := by
  have := lensK_mono d (show k + 1 ≤ n by omega); rw [lensK] at this; omega

/-- (A, n) reads as the rows d, below block hi -/
def RdR (w : World) (hi : Nat) (A : Option Addr) (n : Nat) (vs : List Value) (d : List (List Int)) : Prop :=
  Rd w hi 1 A n vs ∧ d.length = n ∧ ∀ i, i < n → RdIntS w hi (vs.getD i undef) (d.getD i [])
/-- (A, n, c) is a row of slices of its own, each of which owns its ints; no two share a block -/
def OwR (w : World) (lo hi : Nat) (A : Option Addr) (n c : Nat) (vs : List Value) (d : List (List Int)) : Prop :=
  Ow w lo hi 27 1 A n c vs ∧ d.length = n ∧ (∀ i, i < n → OwIntS w lo hi (vs.getD i undef) (d.getD i [])) ∧
  ∀ i j, i < n → j < n → i ≠ j → d.getD i [] ≠ [] → d.getD j [] ≠ [] → (vs.getD i undef).ownBlock ≠ (vs.getD j undef).ownBlock

section
variable {w w' : World} {lo hi lo' hi' n c k g : Nat} {A : Option Addr} {vs : List Value} {d : List (List Int)}
theorem getD_get {vs : List Value} (h : k < vs.length) : vs[k]? = some (vs.getD k undef) := by simp [h]
theorem RdR.row (h : RdR w hi A n vs d) (hk : k < n) : ∃ (a : Addr) (Ai : Option Addr) (ni ci : Nat), A = some a ∧ a.block < hi ∧ w.cell? (a.add k) = some (.slice Ai ni ci) ∧ RdIntS w hi (.slice Ai ni ci) (d.getD k []) ∧ ni ≤ 9223372036854775807 ∧ (d.getD k []).length = ni := by
  obtain ⟨h1, h2, h3⟩ := h
  obtain ⟨a, e, hb, hc⟩ := h1.2 (by omega)
  have hl := h1.1
  have hr := h3 k hk
  obtain ⟨Ai, ni, ci, e2, hn, r⟩ := h3 k hk
  refine ⟨a, Ai, ni, ci, e, hb, ?_, ?_, hn, r.len⟩
  · rw [← e2]; exact hc k _ (getD_get (by omega))
  · rw [← e2]; exact hr
theorem RdR.keep (h : RdR w hi A n vs d) (hb : Below hi w w') : RdR w' hi A n vs d := ⟨h.1.below hb, h.2.1, fun i hi' => (h.2.2 i hi').below hb⟩
theorem RdR.more (h : RdR w hi A n vs d) (hh : hi ≤ hi') : RdR w hi' A n vs d := ⟨h.1.more hh, h.2.1, fun i hi' => (h.2.2 i hi').more hh⟩
theorem OwR.rd (h : OwR w lo hi A n c vs d) : RdR w hi A n vs d := ⟨h.1.rd, h.2.1, fun i hi' => (h.2.2.1 i hi').rd⟩
theorem OwR.below {B : Nat} (h : OwR w lo hi A n c vs d) (hb : Below B w w') (hz : hi ≤ B) : OwR w' lo hi A n c vs d :=
  ⟨h.1.below hb hz, h.2.1, fun i hi' => (h.2.2.1 i hi').below hb hz, h.2.2.2⟩
theorem OwR.kept {mid : Nat} (h : OwR w lo hi A n c vs d) (hk : Kept lo' mid w w') (hz : hi ≤ w.heap.size) (hd : mid ≤ lo ∨ hi ≤ lo') : OwR w' lo hi A n c vs d :=
  ⟨h.1.kept hk hz hd, h.2.1, fun i hi' => (h.2.2.1 i hi').kept hk hz hd, h.2.2.2⟩
theorem OwR.widen (h : OwR w lo hi A n c vs d) (h1 : lo' ≤ lo) (h2 : hi ≤ hi') : OwR w lo' hi' A n c vs d :=
  ⟨h.1.widen h1 h2, h.2.1, fun i hi' => (h.2.2.1 i hi').widen h1 h2, h.2.2.2⟩
/-- but one block has turned, and it is another one -/
theorem Ow.kept1 {e size : Nat} {xs : List Value} (h : Ow w lo hi e size A n c xs) (hk : Kept g (g + 1) w w') (hz : hi ≤ w.heap.size) (hne : 0 < n → A ≠ some ⟨g, 0, none⟩) : Ow w' lo hi e size A n c xs := by
  refine ⟨h.1, h.2.1, ?_⟩
  rcases h.2.2 with h0 | ⟨g', cs, rfl, a, b, hb, r⟩
  · exact .inl h0
  · by_cases h0 : n = 0
    · exact .inl h0
    · have : g' ≠ g := fun e => hne (by omega) (by rw [e])
      exact .inr ⟨g', cs, rfl, a, b, by rw [hk.block g' (by omega) (by omega)]; exact hb, r⟩
theorem OwIntS.kept1 {v : Value} {x : List Int} (h : OwIntS w lo hi v x) (hk : Kept g (g + 1) w w') (hz : hi ≤ w.heap.size) (hne : x ≠ [] → v.ownBlock ≠ some g) : OwIntS w' lo hi v x := by
  obtain ⟨hs, A, n, c, rfl, r⟩ := h
  refine ⟨hs, A, n, c, rfl, r.kept1 hk hz fun h0 e => ?_⟩
  have hl := r.len
  exact hne (by intro e; rw [e] at hl; simp at hl; omega) (by rw [e]; rfl)
/-- what is not empty lies in one block -/
theorem OwIntS.tight {v : Value} {x : List Int} (h : OwIntS w lo hi v x) (hx : x ≠ []) : ∃ g, lo ≤ g ∧ g < hi ∧ v.ownBlock = some g ∧ OwIntS w g (g + 1) v x ∧ ∃ cs, w.heap[g]? = some (.cells cs 3 (0, 0)) := by
  obtain ⟨hs, A, n, c, rfl, r⟩ := h
  have hl := r.len
  have hn : 0 < n := by rcases Nat.eq_zero_or_pos n with h0 | h0; · exact absurd (List.eq_nil_of_length_eq_zero (by omega)) hx
                        · exact h0
  obtain ⟨g, cs, rfl, a, b, hb, ht⟩ := r.lt hn
  exact ⟨g, a, b, rfl, ⟨hs, _, _, _, rfl, r.1, r.2.1, .inr ⟨g, cs, rfl, Nat.le_refl _, by omega, hb, ht⟩⟩, cs, hb⟩
/-- an empty one lies anywhere -/
theorem OwIntS.empty {v : Value} (h : OwIntS w lo hi v []) (lo' hi' : Nat) (w' : World) : OwIntS w' lo' hi' v [] := by
  obtain ⟨hs, A, n, c, rfl, r⟩ := h
  exact ⟨hs, A, n, c, rfl, by have := r.len; simp [cI]; simpa using this, r.2.1, .inl (by have := r.len.symm; simpa using this)⟩
theorem OwR.row (h : OwR w lo hi A n c vs d) (hk : k < n) : ∃ (g : Nat) (Ai : Option Addr) (ni ci : Nat), A = some ⟨g, 0, none⟩ ∧ lo ≤ g ∧ g < hi ∧ w.cell? ⟨g, k, none⟩ = some (.slice Ai ni ci) ∧ vs.getD k undef = .slice Ai ni ci ∧ OwIntS w lo hi (.slice Ai ni ci) (d.getD k []) ∧ ni = (d.getD k []).length ∧ ni ≤ ci := by
  obtain ⟨h1, h2, h3, _⟩ := h
  obtain ⟨g, cs, rfl, a, b, hb, ht⟩ := h1.lt (by omega)
  have hl := h1.1
  have hr := h3 k hk
  obtain ⟨_, Ai, ni, ci, e2, r⟩ := h3 k hk
  refine ⟨g, Ai, ni, ci, rfl, a, b, ?_, e2, ?_, r.len.symm, r.2.1⟩
  · rw [← e2]; exact h1.cellAt (getD_get (by omega))
  · rw [← e2]; exact hr
/-- one row turned in its block -/
theorem OwR.turn (h : OwR w lo hi A n c vs d) (hk : k < n) {x : List Int} (hkp : Kept g (g + 1) w w') (hz : hi ≤ w.heap.size) (hx : d.getD k [] ≠ []) (hg : (vs.getD k undef).ownBlock = some g) (ho : OwIntS w' lo hi (vs.getD k undef) x) :
    OwR w' lo hi A n c vs (d.set k x) := by
  obtain ⟨h1, h2, h3, h4⟩ := h
  have get : ∀ i, (d.set k x).getD i [] = if k = i then x else d.getD i [] := by
    intro i
    simp only [List.getD_eq_getElem?_getD, List.getElem?_set]
    by_cases hc : k = i
    · subst hc; rw [if_pos rfl, if_pos rfl, if_pos (by omega)]; rfl
    · rw [if_neg hc, if_neg hc]
  refine ⟨h1.kept1 hkp hz fun hn e => ?_, by rw [List.length_set]; exact h2, fun i hi' => ?_, fun i j hi' hj' hij hxi hxj => ?_⟩
  · obtain ⟨g', cs', rfl, _, _, hb', _⟩ := h1.lt hn
    injection e with e; injection e with e; subst e
    obtain ⟨g2, _, _, hb2, _, cs, hb⟩ := (h3 k hk).tight hx
    rw [hb2] at hg; injection hg with hg; subst hg
    rw [hb] at hb'; injection hb' with hb'; injection hb' with _ ht
    exact absurd ht (by decide)
  · rw [get i]
    by_cases hc : k = i
    · subst hc; rw [if_pos rfl]; exact ho
    · rw [if_neg hc]
      refine (h3 i hi').kept1 hkp hz fun hne => ?_
      rw [← hg]; exact h4 i k hi' hk (fun e => hc e.symm) hne hx
  · refine h4 i j hi' hj' hij ?_ ?_
    · rw [get i] at hxi
      by_cases hc : k = i
      · subst hc; exact hx
      · rwa [if_neg hc] at hxi
    · rw [get j] at hxj
      by_cases hc : k = j
      · subst hc; exact hx
      · rwa [if_neg hc] at hxj
end

theorem info_row : (Try.prog.info? 27).map (fun i => (i.zero, i.size, i.bytes)) = some (some (.slice none 0 0), 1, 24) := by kernel_rfl

/-- the first k rows copied, the others still nil -/
def copyR (d : List (List Int)) (n k : Nat) : List (List Int) := d.take k ++ List.replicate (n - k) []
theorem copyR_get (d : List (List Int)) (n k i : Nat) (h : d.length = n) (hk : k ≤ n) : (copyR d n k).getD i [] = if i < k then d.getD i [] else [] := by
  unfold copyR
  simp only [List.getD_eq_getElem?_getD, List.getElem?_append, List.length_take, List.getElem?_take, List.getElem?_replicate]
  by_cases h1 : i < k
  · rw [if_pos (by omega), if_pos h1, if_pos h1]
  · rw [if_neg (by omega), if_neg h1]
    by_cases h2 : i - min k d.length < n - k
    · rw [if_pos h2]; rfl
    · rw [if_neg h2]; rfl
theorem copyR_all (d : List (List Int)) (n : Nat) (h : d.length = n) : copyR d n n = d := by
  unfold copyR; rw [List.take_of_length_le (by omega), Nat.sub_self]; simp

set_option maxHeartbeats 1000000 in
theorem l_toIntSS (A : Option Addr) (n c : Nat) (vs : List Value) (d : List (List Int)) (w : World) (h : RdR w w.heap.size A n vs d) (hn : n ≤ 1048576) (hl : lensK d n ≤ 1048576) :
    Calls Try.prog 14 #[.slice A n c] w fun e w' => ∃ vs', e = .returned (.slice (some ⟨w.heap.size, 0, none⟩) n n) ∧ OwR w' w.heap.size w'.heap.size (some ⟨w.heap.size, 0, none⟩) n n vs' d ∧ Below w.heap.size w w' := by
  have hmk := fun W => run_make1 (P := Try.prog) Try.underlying22 info_row rfl n (by omega) (by omega) W
  have hlen : Hid (d.length = n) := Lib.hid h.2.1
  have HL := Lib.hid hl
  have H := Lib.hid h
  clear h hl
  go_enter Try.func14, Try.ntmps14
  go_wp2
  go_loopw [4] (fun i wr => ∃ (k : Nat) (vs' : List Value), k ≤ n ∧ i = .int .i64 k ∧ Hid (OwR wr w.heap.size wr.heap.size (some ⟨w.heap.size, 0, none⟩) n n vs' (copyR d n k)) ∧ Hid (Below w.heap.size w wr)) (fun i _ => n - (intOf i).toNat)
  case atStart =>
    refine ⟨0, List.replicate n (.slice none 0 0), Nat.zero_le _, rfl, Lib.hid ⟨?_, ?_, fun i hi => ?_, fun i j hi hj hij hx => ?_⟩, Lib.hid ((Below.refl _ _).alloc (Nat.le_refl _) _)⟩
    · exact (Ow.zeros w (.slice none 0 0) 27 n).widen (Nat.le_refl _) (by simp)
    · simp [copyR]
    · rw [copyR_get _ _ _ _ hlen.out (Nat.zero_le _), if_neg (by omega)]
      rw [show (List.replicate n (Value.slice none 0 0)).getD i undef = .slice none 0 0 by simp [hi]]
      exact OwIntS.nil_ _ _ _
    · rw [copyR_get _ _ _ _ hlen.out (Nat.zero_le _), if_neg (by omega)] at hx; exact absurd rfl hx
  case round =>
    obtain ⟨k, vs', hk, rfl, HO, HB⟩ := hrel
    by_cases hlt : k < n
    · obtain ⟨a, Ai, ni, ci, rfl, hab, hc0, hri, hni, hleni⟩ := H.out.row hlt
      have hc := (HB.out.cell (p := a.add k) (by rw [add_block]; exact hab)).trans hc0
      have HR := Lib.hid (RdIntS.below hri HB.out)
      have HS : Hid (szIntS (d.getD k []) ≤ 1048576) := Lib.hid (by have := lensK_row d hlt; have := HL.out; unfold szIntS; omega)
      have hz := HB.out.size
      clear hc0 hri hni hleni
      go_wp2_with fail
      refine (L_toIntS _ _ (d.getD k []) _ HR.out hz HS.out).mono ?_
      rintro e w2 ⟨v, rfl, ho, hb⟩
      obtain ⟨Av, nv, cv, hv⟩ : ∃ Av nv cv, v = .slice Av nv cv := by obtain ⟨_, Av, nv, cv, rfl, _⟩ := ho; exact ⟨_, _, _, rfl⟩
      subst hv
      have hz2 := hb.size
      have HO1 := Lib.hid (HO.out.below hb (Nat.le_refl _))
      have HV := Lib.hid ho
      have HB1 : Hid (Below w.heap.size w w2) := Lib.hid (HB.out.trans (hb.mono hz))
      have hcell : ∃ u, w2.cell? ⟨w.heap.size, k, none⟩ = some u := by
        obtain ⟨g, Aj, nj, cj, e, _, _, hcc, _⟩ := HO1.out.row hlt
        injection e with e; injection e with e; subst e
        exact ⟨_, hcc⟩
      obtain ⟨u, hcu⟩ := hcell
      have hf := HO1.out.1.free (by omega) k
      have HO2 : Hid (OwR (w2.setCell ⟨w.heap.size, k, none⟩ (.slice Av nv cv)) w.heap.size (w2.setCell ⟨w.heap.size, k, none⟩ (.slice Av nv cv)).heap.size (some ⟨w.heap.size, 0, none⟩) n n (vs'.set k (.slice Av nv cv)) (copyR d n (k + 1))) := Lib.hid (by
        have hlv : vs'.length = n := by have := HO1.out.1.1; omega
        have hgv : ∀ i, (vs'.set k (.slice Av nv cv)).getD i undef = if k = i then .slice Av nv cv else vs'.getD i undef := by
          intro i
          simp only [List.getD_eq_getElem?_getD, List.getElem?_set]
          by_cases hc : k = i
          · subst hc; rw [if_pos rfl, if_pos rfl, if_pos (by omega)]; rfl
          · rw [if_neg hc, if_neg hc]
        have hkp : Kept w.heap.size (w.heap.size + 1) w2 (w2.setCell ⟨w.heap.size, k, none⟩ (.slice Av nv cv)) := (Kept.refl _ _ _).setCell (p := ⟨w.heap.size, k, none⟩) (Nat.le_refl _) (Nat.lt_succ_self _) (.slice Av nv cv)
        have hout := HO1.out.1.set k (.slice Av nv cv)
        have hzz : (w2.setCell ⟨w.heap.size, k, none⟩ (.slice Av nv cv)).heap.size = w2.heap.size := World.size_setCell _ _ _
        have far : ∀ {x : List Int} {u : Value}, x ≠ [] → OwIntS w2 w.heap.size wr.heap.size u x → u.ownBlock ≠ some w.heap.size := by
          intro x u hx hu e
          obtain ⟨g, _, _, hb2, _, cs, hg⟩ := hu.tight hx
          rw [hb2] at e; injection e with e; subst e
          obtain ⟨g', cs', e', _, _, hg', _⟩ := HO1.out.1.lt (by omega)
          injection e' with e'; injection e' with e'; subst e'
          rw [hg] at hg'; injection hg' with hg'; injection hg' with _ ht
          exact absurd ht (by decide)
        refine ⟨hout.widen (Nat.le_refl _) (by omega), by simp [copyR]; have := hlen.out; omega, fun i hi => ?_, fun i j hi hj hij hx hy => ?_⟩
        · rw [hgv, copyR_get _ _ _ _ hlen.out (by omega), hzz]
          by_cases hc : k = i
          · subst hc
            rw [if_pos rfl, if_pos (by omega)]
            exact (HV.out.kept hkp (Nat.le_refl _) (.inl (by have := HO.out.1.lt (by omega); obtain ⟨_, _, e, _, h2, _⟩ := this; injection e with e; injection e with e; omega))).widen hz (Nat.le_refl _)
          · rw [if_neg hc]
            have h1 := HO1.out.2.2.1 i hi
            rw [copyR_get _ _ _ _ hlen.out (by omega)] at h1
            by_cases h2 : i < k
            · rw [if_pos h2] at h1
              rw [if_pos (by omega)]
              exact (h1.kept1 hkp hz2 fun hx => far hx h1).widen (Nat.le_refl _) hz2
            · rw [if_neg h2] at h1
              rw [if_neg (by omega)]
              exact h1.empty _ _ _
        · rw [copyR_get _ _ _ _ hlen.out (by omega)] at hx hy
          rw [hgv, hgv]
          have old : ∀ i, i < n → i ≠ k → (if i < k + 1 then d.getD i [] else []) ≠ [] → OwIntS w2 w.heap.size wr.heap.size (vs'.getD i undef) (d.getD i []) ∧ d.getD i [] ≠ [] := by
            intro i hi hne hx
            by_cases h2 : i < k + 1
            · rw [if_pos h2] at hx
              have h1 := HO1.out.2.2.1 i hi
              rw [copyR_get _ _ _ _ hlen.out (by omega), if_pos (by omega)] at h1
              exact ⟨h1, hx⟩
            · rw [if_neg h2] at hx; exact absurd rfl hx
          by_cases hci : k = i
          · subst hci
            rw [if_pos rfl, if_neg (by omega)]
            rw [if_pos (by omega)] at hx
            obtain ⟨h1, h2⟩ := old j hj (by omega) hy
            obtain ⟨g, a1, _, b1, _⟩ := HV.out.tight hx
            obtain ⟨g', _, a2, b2, _⟩ := h1.tight h2
            rw [b1, b2]; intro e; injection e with e; omega
          · rw [if_neg hci]
            by_cases hcj : k = j
            · subst hcj
              rw [if_pos rfl]
              rw [if_pos (by omega)] at hy
              obtain ⟨h1, h2⟩ := old i hi (by omega) hx
              obtain ⟨g, a1, _, b1, _⟩ := HV.out.tight hy
              obtain ⟨g', _, a2, b2, _⟩ := h1.tight h2
              rw [b1, b2]; intro e; injection e with e; omega
            · rw [if_neg hcj]
              obtain ⟨h1, h2⟩ := old i hi (by omega) hx
              obtain ⟨h3, h4⟩ := old j hj (by omega) hy
              have hik : i < k := by
                by_cases hh : i < k + 1
                · omega
                · rw [if_neg hh] at hx; exact absurd rfl hx
              have hjk : j < k := by
                by_cases hh : j < k + 1
                · omega
                · rw [if_neg hh] at hy; exact absurd rfl hy
              exact HO1.out.2.2.2 i j hi hj hij (by rw [copyR_get _ _ _ _ hlen.out (by omega), if_pos hik]; exact h2) (by rw [copyR_get _ _ _ _ hlen.out (by omega), if_pos hjk]; exact h4))
      have HB2 := Lib.hid (HB1.out.setCell (p := ⟨w.heap.size, k, none⟩) (Nat.le_refl _) (.slice Av nv cv))
      clear ho hb HO HB HO1 HV HB1 hc
      go_wp2
      go_roundw
      case rel => exact ⟨k + 1, _, by omega, by go_num, HO2, HB2⟩
      case measure => simp [intOf] <;> omega
    · have hkn : k = n := by omega
      have HO2 : Hid (OwR wr w.heap.size wr.heap.size (some ⟨w.heap.size, 0, none⟩) n n vs' d) := Lib.hid (by have := HO.out; rw [hkn, copyR_all _ _ hlen.out] at this; exact this)
      clear HO hkn
      go_wp2
      go_ret
      exact ⟨_, rfl, HO2.out, HB.out⟩

set_option maxHeartbeats 1000000 in
theorem l_eqIntSS (A A' : Option Addr) (n c c' : Nat) (vs vs' : List Value) (d : List (List Int)) (w : World) (h : RdR w w.heap.size A n vs d) (h' : RdR w w.heap.size A' n vs' d) (hn : n ≤ 1048576) (hl : lensK d n ≤ 1048576) :
    Calls Try.prog 16 #[.slice A n c, .slice A' n c'] w fun e w' => e = .returned (.bool true) ∧ Below w.heap.size w w' := by
  have HL := Lib.hid hl
  have H := Lib.hid h
  have H' := Lib.hid h'
  clear h h' hl
  go_enter Try.func16, Try.ntmps16
  go_wp2
  go_loopw [5] (fun i wr => ∃ k : Nat, k ≤ n ∧ i = .int .i64 k ∧ Hid (Below w.heap.size w wr)) (fun i _ => n - (intOf i).toNat)
  case atStart => exact ⟨0, Nat.zero_le _, rfl, Lib.hid (Below.refl _ _)⟩
  case round =>
    obtain ⟨k, hk, rfl, HB⟩ := hrel
    by_cases hlt : k < n
    · obtain ⟨a, Ai, ni, ci, rfl, hab, hc0, hr, _, _⟩ := H.out.row hlt
      obtain ⟨a', Aj, nj, cj, rfl, hab', hc0', hr', _, _⟩ := H'.out.row hlt
      have hc := (HB.out.cell (p := a.add k) (by rw [add_block]; exact hab)).trans hc0
      have hc' := (HB.out.cell (p := a'.add k) (by rw [add_block]; exact hab')).trans hc0'
      have HR := Lib.hid (RdIntS.below hr HB.out.drew)
      have HR' := Lib.hid (RdIntS.below hr' HB.out.drew)
      have HS : Hid (szIntS (d.getD k []) ≤ 1048576) := Lib.hid (by have := lensK_row d hlt; have := HL.out; unfold szIntS; omega)
      have hz := HB.out.size
      have i0 : (0 : Int) ≤ (k : Int) := by omega
      have i1 : (k : Int) < (n : Int) := by omega
      clear hc0 hr hc0' hr'
      go_wp2
      go_still_tail 8, (by kernel_rfl)
      change wpList _ _ _ _ _ wr.drew
      go_wp2_with fail
      refine (L_eqIntS w.heap.size w.heap.size _ _ (d.getD k []) _ HR.out HR'.out hz hz HS.out).mono ?_
      rintro e w2 ⟨rfl, hb⟩
      have HB2 : Hid (Below w.heap.size w w2) := Lib.hid (HB.out.drew.trans (hb.mono hz))
      clear hc hc' hb HB
      go_wp2
      go_roundw
      case rel => exact ⟨k + 1, by omega, by go_num, HB2⟩
      case measure => simp [intOf] <;> omega
    · go_wp2
      go_ret
      exact ⟨rfl, HB.out⟩

/-- rows marked one behind the other -/
def mkRow (K : Int) (d : List (List Int)) (i : Nat) : List Int := iota (K + lensK d i) (d.getD i []).length
def mkIntSS (K : Int) (d : List (List Int)) : List (List Int) := (List.range d.length).map (mkRow K d)
def markR (K : Int) (d : List (List Int)) (k : Nat) : List (List Int) := (List.range d.length).map fun i => if i < k then mkRow K d i else d.getD i []
theorem markR_get (K : Int) (d : List (List Int)) (k i : Nat) (h : i < d.length) : (markR K d k).getD i [] = if i < k then mkRow K d i else d.getD i [] := by simp [markR, h]
theorem mkIntSS_get (K : Int) (d : List (List Int)) (i : Nat) (h : i < d.length) : (mkIntSS K d).getD i [] = mkRow K d i := by simp [mkIntSS, h]
theorem mkRow_len (K : Int) (d : List (List Int)) (i : Nat) : (mkRow K d i).length = (d.getD i []).length := by rw [mkRow, iota_length]
theorem markR_length (K : Int) (d : List (List Int)) (k : Nat) : (markR K d k).length = d.length := by simp [markR]
theorem mkIntSS_length (K : Int) (d : List (List Int)) : (mkIntSS K d).length = d.length := by simp [mkIntSS]
theorem ext_rows {p q : List (List Int)} (hl : p.length = q.length) (h : ∀ j, j < p.length → p.getD j [] = q.getD j []) : p = q := by
  apply List.ext_getElem hl
  intro j h1 h2
  have := h j h1
  simpa [h1, h2] using this
theorem markR_0 (K : Int) (d : List (List Int)) : markR K d 0 = d := ext_rows (markR_length _ _ _) fun j hj => by rw [markR_length] at hj; rw [markR_get _ _ _ _ hj, if_neg (by omega)]
theorem markR_n (K : Int) (d : List (List Int)) : markR K d d.length = mkIntSS K d := ext_rows (by rw [markR_length, mkIntSS_length]) fun j hj => by rw [markR_length] at hj; rw [markR_get _ _ _ _ hj, if_pos hj, mkIntSS_get _ _ _ hj]
theorem markR_succ (K : Int) (d : List (List Int)) (k : Nat) (_hk : k < d.length) : (markR K d k).set k (mkRow K d k) = markR K d (k + 1) := by
  refine ext_rows (by simp [markR_length]) fun j hj => ?_
  rw [List.length_set, markR_length] at hj
  rw [markR_get _ _ _ _ hj]
  simp only [List.getD_eq_getElem?_getD, List.getElem?_set, markR_length]
  by_cases hc : k = j
  · subst hc; rw [if_pos rfl, if_pos hj, if_pos (by omega)]; rfl
  · rw [if_neg hc, ← List.getD_eq_getElem?_getD, markR_get _ _ _ _ hj]
    by_cases h2 : j < k
    · rw [if_pos h2, if_pos (by omega)]
    · rw [if_neg h2, if_neg (by omega)]; rfl

set_option maxHeartbeats 1000000 in
theorem l_markIntSS (A : Option Addr) (n c lo hi : Nat) (vs : List Value) (d : List (List Int)) (K : Int) (w : World) (h : OwR w lo hi A n c vs d) (hz : hi ≤ w.heap.size) (hn : n ≤ 1048576) (hl : lensK d n ≤ 1048576) (hK : 0 ≤ K) (hK2 : K ≤ 1000000000) :
    Calls Try.prog 21 #[.slice A n c, .int .i64 K] w fun e w' => ∃ K', e = .returned (.int .i64 K') ∧ Hid (K' = K + lensK d n) ∧ OwR w' lo hi A n c vs (mkIntSS K d) ∧ Kept lo hi w w' := by
  have hlen := Lib.hid h.2.1
  have HL := Lib.hid hl
  have H := Lib.hid h
  clear h hl
  go_enter Try.func21, Try.ntmps21
  go_wp2
  go_loopw [1, 5] (fun kk i wr => ∃ (k : Nat) (Q : Int), k ≤ n ∧ i = .int .i64 k ∧ kk = .int .i64 Q ∧ 0 ≤ Q ∧ Q ≤ 1001048576 ∧ Hid (Q = K + lensK d k) ∧ Hid (OwR wr lo hi A n c vs (markR K d k)) ∧ Hid (Kept lo hi w wr)) (fun _ i _ => n - (intOf i).toNat)
  case atStart => exact ⟨0, K, Nat.zero_le _, rfl, rfl, hK, by omega, Lib.hid (by simp [lensK]), Lib.hid (by rw [markR_0]; exact H.out), Lib.hid (Kept.refl _ _ _)⟩
  case round =>
    obtain ⟨k, Q, hk, rfl, rfl, q0, q1, HQ, HO, HB⟩ := hrel
    by_cases hlt : k < n
    · obtain ⟨g, Ai, ni, ci, hA, g1, g2, hc, hv, hr, hni, hnc⟩ := HO.out.row hlt
      rw [markR_get _ _ _ _ (by have := hlen.out; omega), if_neg (by omega)] at hr hni
      have HV := Lib.hid hv
      have HR := Lib.hid hr
      have HNI := Lib.hid hni
      have HS : Hid (lensK d (k + 1) ≤ 1048576) := Lib.hid (by have := lensK_mono d (show k + 1 ≤ n by omega); have := HL.out; omega)
      have q2 : Q ≤ 1000000000 + 1048576 := by omega
      have HZ : Hid (hi ≤ wr.heap.size) := Lib.hid (by have := HB.out.size; omega)
      subst hA
      have hcl : (⟨g, 0, none⟩ : Addr).add k = ⟨g, k, none⟩ := add_zero_head g k
      clear hv hr hni hcl
      go_wp2_with fail
      by_cases he : d.getD k [] = []
      · have hr2 : OwIntS wr 0 0 (.slice Ai ni ci) [] := OwIntS.empty (he ▸ HR.out) 0 0 wr
        refine (l_markIntS Ai ni ci 0 0 [] Q _ (by obtain ⟨_, A2, n2, c2, e, r⟩ := hr2; injection e with e1 e2 e3; subst e1; subst e2; subst e3; exact r) (by have := HNI.out; rw [he] at this; simp at this; omega) q0 (by omega)).mono ?_
        rintro e w2 ⟨rfl, _, hk2, hs2⟩
        have HQ2 : Hid (Q + (ni : Int) = K + lensK d (k + 1)) := Lib.hid (by rw [HQ.out, HNI.out, lensK]; omega)
        have hni0 : ni = 0 := by have := HNI.out; rw [he] at this; simpa using this
        have HO2 : Hid (OwR w2 lo hi (some ⟨g, 0, none⟩) n c vs (markR K d (k + 1))) := Lib.hid (by
          have h1 := HO.out.kept hk2 HZ.out (.inl (Nat.zero_le _))
          have h2 : markR K d (k + 1) = markR K d k := by
            refine ext_rows (by rw [markR_length, markR_length]) fun j hj => ?_
            rw [markR_length] at hj
            rw [markR_get _ _ _ _ hj, markR_get _ _ _ _ hj]
            by_cases hc : j = k
            · subst hc; rw [if_pos (by omega), if_neg (by omega), he, mkRow, he]; simp [iota]
            · by_cases h3 : j < k
              · rw [if_pos h3, if_pos (by omega)]
              · rw [if_neg h3, if_neg (by omega)]
          rw [h2]; exact h1)
        have HB2 : Hid (Kept lo hi w w2) := Lib.hid (HB.out.trans ⟨hk2.os, hk2.tape, hk2.output, hk2.size, fun i hi' _ => hk2.block i hi' (by omega)⟩)
        have q3 : Q + (ni : Int) ≤ 1001048576 := by omega
        clear hk2 hs2 HO HB hr2 he hc hni0
        go_wp2
        go_roundw
        case rel => exact ⟨k + 1, _, by omega, by go_num, rfl, by omega, q3, HQ2, HO2, HB2⟩
        case measure => simp [intOf] <;> omega
      · obtain ⟨g', gl, gh, hb, ht, _⟩ := HR.out.tight he
        have HE := Lib.hid he
        have HBK := Lib.hid hb
        have HT := Lib.hid ht
        have htt : Ow wr g' (g' + 1) 3 1 Ai ni ci (cI (d.getD k [])) := by obtain ⟨_, A2, n2, c2, e, r⟩ := ht; injection e with e1 e2 e3; subst e1; subst e2; subst e3; exact r
        have hsm : ni ≤ 1048576 := by have := HNI.out; have := HS.out; rw [lensK] at this; omega
        clear he hb ht
        refine (l_markIntS Ai ni ci g' (g' + 1) (d.getD k []) Q _ htt hsm q0 (by omega)).mono ?_
        rintro e w2 ⟨rfl, ho2, hk2, hs2⟩
        have HQ2 : Hid (Q + (ni : Int) = K + lensK d (k + 1)) := Lib.hid (by rw [HQ.out, HNI.out, lensK]; omega)
        have HO2 : Hid (OwR w2 lo hi (some ⟨g, 0, none⟩) n c vs (markR K d (k + 1))) := Lib.hid (by
          rw [← markR_succ K d k (by have := hlen.out; omega)]
          have hgk : (markR K d k).getD k [] = d.getD k [] := by rw [markR_get _ _ _ _ (by have := hlen.out; omega), if_neg (by omega)]
          refine HO.out.turn hlt hk2 HZ.out (by rw [hgk]; exact HE.out) (by rw [HV.out]; exact HBK.out) ?_
          rw [HV.out, mkRow, ← HQ.out, ← HNI.out]
          exact ⟨by rw [iota_length]; exact hsm, _, _, _, rfl, ho2.widen gl gh⟩)
        have HB2 : Hid (Kept lo hi w w2) := Lib.hid (HB.out.trans ⟨hk2.os, hk2.tape, hk2.output, hk2.size, fun i hi' hn' => hk2.block i hi' (by omega)⟩)
        have q3 : Q + (ni : Int) ≤ 1001048576 := by have := HQ2.out; have := HS.out; omega
        clear ho2 hk2 hs2 HO HB htt hc
        go_wp2
        go_roundw
        case rel => exact ⟨k + 1, _, by omega, by go_num, rfl, by omega, q3, HQ2, HO2, HB2⟩
        case measure => simp [intOf] <;> omega
    · have hkn : k = n := by omega
      have HO2 : Hid (OwR wr lo hi A n c vs (mkIntSS K d)) := Lib.hid (by rw [← markR_n, hlen.out]; have := HO.out; rw [hkn] at this; exact this)
      have HQ2 : Hid (Q = K + lensK d n) := Lib.hid (by rw [← hkn]; exact HQ.out)
      clear HO hkn HQ
      go_wp2
      go_ret
      exact ⟨_, rfl, HQ2, HO2.out, HB.out⟩
end Go.Proofs.Ytbnobkojkfmccaa
