/- Chapter 16: signatures: what is mixed is put together. Made by tools/gen15/g.py. -/
import Derived.Test.YtdhakbpimbadgaaWalk16c
import Derived.Test.YtdhakbpimbadgaaWalk15e
import Derived.Test.YtdhakbpimbadgaaWalk16e
import Derived.Test.YtdhakbpimbadgaaWalk16a
import Derived.Test.YtdhakbpimbadgaaAppend3
namespace Go.Proofs.Ytdhakbpimbadgaa
open Go.RowKit
set_option maxRecDepth 100000

theorem own_set_other {w : World} {base e size n : Nat} {v : Value} {xs : List Value} (h : w.ownsRow base e size v n xs) {p : Addr} (hp : p.block < base) (u : Value) : (w.setCell p u).ownsRow base e size v n xs := by
  refine ⟨h.1, ?_⟩
  rcases h.2 with h0 | ⟨g, cap, cur, rfl, hg, hh, r⟩
  · exact .inl h0
  · exact .inr ⟨g, cap, cur, rfl, hg, (Below.heap_setCell _ _ _ _ (by omega)).trans hh, r⟩
set_option maxHeartbeats 4000000 in
theorem i_add (SB T m n c lo hb : Nat) (A : Option Addr) (v lv : Value) (xs ys : List Int) (w : World) (hx : Bx w SB #[v, lv] T) (ho : w.ownsRow (SB + 1) 3 1 v m (cI xs)) (hr : Rd w hb 1 A n (cI ys)) (hlo : lo ≤ SB) (hm : m + n ≤ 100000000) :
    Calls Try.prog 114 #[.pointer (some ⟨SB, 0, none⟩), .slice A n c] w fun e w' => ∃ v', e = .returned (.tuple #[]) ∧ Bx w' SB #[v', lv] T ∧ w'.ownsRow (SB + 1) 3 1 v' (m + n) (cI (xs ++ ys)) ∧ Hid (∀ b, b < SB → w'.heap[b]? = w.heap[b]?) ∧ Below lo w w' := by
  have HX := Lib.hid hx
  have HO := Lib.hid ho
  have HR := Lib.hid hr
  have hlt := hx.lt
  clear hx ho hr
  have f0 : w.cell? ⟨SB, 0, none⟩ = some v := HX.out.cell 0
  go_enter Try.func114, Try.ntmps114
  go_wp2_with (at_builtin
               refine wpList_append_rd2 rfl (.tmp 7) (.tmp 8) 70 22 3 rfl (SB + 1) 3 _ 1 8 Try.underlying70 Try.underlying22 info_int rfl (by decide) v m (cI xs) rfl HO.out hb _ n _ (cI ys) rfl HR.out (cI_one _) (by unfold maxLen; omega) (by omega) (by omega) ?_
               intro v5 w5 hown hgr hat
               have HO5 : Hid (w5.ownsRow (SB + 1) 3 1 v5 (m + n) (cI (xs ++ ys))) := Lib.hid (by rw [cI_app]; exact hown)
               have HX5 : Hid (Bx w5 SB #[v, lv] T) := Lib.hid (HX.out.grown hgr (fun e => by have := own_ge HO.out e; omega))
               have HB5 : Hid (Below (SB + 1) w w5) := Lib.hid (below_grown (Below.refl _ _) hgr (fun g e => own_ge HO.out e) (by omega))
               have g0 : w5.cell? ⟨SB, 0, none⟩ = some v := HX5.out.cell 0
               have g1 : w5.frozen? ⟨SB, 0, none⟩ = false := HX5.out.free 0
               have z5 : w.heap.size ≤ w5.heap.size := HB5.out.size
               clear hown hgr hat f0 HX HO HR
               obtain ⟨A5, c5, hv, ho⟩ := Ow.of_own HO5.out
               subst hv
               clear ho)
  go_end0
  refine ⟨_, rfl, by have := HX5.out.set 0 (.slice A5 (m + n) c5); exact this, own_set_other HO5.out (by simp) _, Lib.hid fun b hb => ?_, ?_⟩
  · exact (Below.heap_setCell _ _ _ _ (by simp; omega)).trans (HB5.out.block b (by omega))
  · exact (HB5.out.mono (by omega)).setCell (p := ⟨SB, 0, none⟩) (by simp only; omega) _
theorem inforesSigProof : (Try.prog.info? 72).map (·.size) = some 2 := by kernel_rfl
theorem resSigProof1 {fn : Func} {t : Tmp} {tmps : Array Value} {w : World} {g : Nat} {a0 a1 : Value} (h : fn.results = #[.cell t 72]) (ht : tmps.getD t undef = .pointer (some ⟨g, 0, none⟩)) (hb : Bx w g #[a0, a1] 72) :
    (results fn tmps).run Try.prog w = .ok (.agg #[a0, a1]) w := by
  have hr : w.rangeAt g 0 [a0, a1] := fun j v hv => by
    rw [Nat.zero_add, cell_of_row w g j _ _ (0, 0) hb]; simpa using hv
  have := run_loadVar_mid (P := Try.prog) w g 0 72 [a0, a1] _ hr Try.underlying72 rfl inforesSigProof
  have ht2 : tmps[t]?.getD undef = .pointer (some ⟨g, 0, none⟩) := by rw [← ht]; simp
  simp [results, h, ht2, this, asAddr]
theorem resSigProof2 {fn : Func} {t u : Tmp} {tmps : Array Value} {w : World} {g : Nat} {a0 a1 x : Value} (h : fn.results = #[.cell t 72, .tmp u]) (ht : tmps.getD t undef = .pointer (some ⟨g, 0, none⟩)) (hu : tmps.getD u undef = x) (hb : Bx w g #[a0, a1] 72) :
    (results fn tmps).run Try.prog w = .ok (.tuple #[.agg #[a0, a1], x]) w := by
  have hr : w.rangeAt g 0 [a0, a1] := fun j v hv => by
    rw [Nat.zero_add, cell_of_row w g j _ _ (0, 0) hb]; simpa using hv
  have := run_loadVar_mid (P := Try.prog) w g 0 72 [a0, a1] _ hr Try.underlying72 rfl inforesSigProof
  have ht2 : tmps[t]?.getD undef = .pointer (some ⟨g, 0, none⟩) := by rw [← ht]; simp
  subst hu
  simp [results, h, ht2, this, asAddr]
theorem inv_com_Proof (n : Nat) (a b c : Value) (W : World) : (method (n + 1) 54 (.agg #[a, b, c]) "loop.example/underveil/impl.commitments").run Try.prog W = .ok (136, .agg #[a, b, c]) W := by kernel_rfl

set_option maxHeartbeats 1000000 in
theorem i_commitments_Proof (x y z : Int) (w : World) :
    Calls Try.prog 136 #[.agg #[.int .i64 x, .int .i64 y, .int .i64 z]] w fun e w' => ∃ A, e = .returned (.slice A 1 1) ∧ Rd w' w'.heap.size 1 A 1 (cI [x]) ∧ Below w.heap.size w w' := by
  go_enter Try.func136, Try.ntmps136
  go_wp2
  go_ret
  refine ⟨_, rfl, ?_, ((Below.refl _ _).alloc (Nat.le_refl _) _).alloc (by simp only [World.size_alloc]; omega) _⟩
  have := (Bx.new (w.alloc (.cells #[.int .i64 x, .int .i64 y, .int .i64 z] 54)) #[.int .i64 x] 3).rdI (zs := [x]) rfl
  simp only [World.size_alloc] at this ⊢; exact this
theorem comsP_take (l : List Pf) (k : Nat) (h : k < l.length) {x y z : Int} (e : l.getD k (0, 0, 0) = (x, y, z)) : comsP (l.take (k + 1)) = comsP (l.take k) ++ [x] := by
  rw [List.take_succ_eq_append_getElem h]
  have : l[k] = (x, y, z) := by rw [← e]; simp [h]
  rw [this]; simp [comsP]
set_option maxHeartbeats 8000000 in
theorem i_signing_Proof (A : Option Addr) (n c : Nat) (ah : List Int) (A' : Option Addr) (n' c' : Nat) (l : List Pf) (w : World) (h : Rd w w.heap.size 1 A n (cI ah)) (h' : Rd w w.heap.size 3 A' n' (cProof l)) (hn : n ≤ 8388608) (hn' : n' ≤ 1048576) :
    Calls Try.prog 94 #[.slice A n c, .slice A' n' c'] w fun e w' => ∃ A2 c2, e = .returned (.agg #[.slice A2 (n + n') c2, .slice A' n' c']) ∧ Ow w' w.heap.size w'.heap.size 3 1 A2 (n + n') c2 (cI (ah ++ comsP l)) ∧ Below w.heap.size w w' := by
  have H := Lib.hid h
  have H' := Lib.hid h'
  have HL := Lib.hid h'.Prooflen
  clear h h'
  obtain ⟨W0, hW0⟩ : ∃ W, Hid ((w.alloc (.cells #[.slice none 0 0, .slice none 0 0] 72)).alloc (.cells #[.slice none 0 0, .slice A' n' c'] 72) = W) := ⟨_, Lib.hid rfl⟩
  have HB0 : Hid (Below w.heap.size w W0) := Lib.hid (by rw [← hW0.out]; exact ((Below.refl _ _).alloc (Nat.le_refl _) _).alloc (by simp only [World.size_alloc]; omega) _)
  have HR0 : Hid (Bx W0 w.heap.size #[.slice none 0 0, .slice none 0 0] 72) := Lib.hid (by rw [← hW0.out]; exact (Bx.new _ _ _).alloc _)
  have HS0 : Hid (Bx W0 (w.heap.size + 1) #[.slice none 0 0, .slice A' n' c'] 72) := Lib.hid (by rw [← hW0.out]; have := Bx.new (w.alloc (.cells #[.slice none 0 0, .slice none 0 0] 72)) #[.slice none 0 0, .slice A' n' c'] 72; simp only [World.size_alloc] at this; exact this)
  have z0 := HB0.out.size
  go_enter Try.func94, Try.ntmps94
  go_wp2_with fail
  rw [hW0.out]
  clear hW0
  refine (i_add (w.heap.size + 1) 72 0 n c w.heap.size w.heap.size A (.slice none 0 0) (.slice A' n' c') [] ah W0 HS0.out ⟨by simp [cI], .inl ⟨rfl, rfl⟩⟩ (H.out.below HB0.out) (by omega) (by omega)).mono ?_
  rintro e w1 ⟨v1, rfl, hx1, ho1, hk1, hb1⟩
  have HS1 := Lib.hid hx1
  have HO1 : Hid (w1.ownsRow (w.heap.size + 1 + 1) 3 1 v1 (n + 0) (cI (ah ++ comsP (l.take 0)))) := Lib.hid (by rw [Nat.zero_add, List.nil_append] at ho1; simpa [comsP] using ho1)
  have HR1 : Hid (Bx w1 w.heap.size #[.slice none 0 0, .slice none 0 0] 72) := Lib.hid ((hk1.out w.heap.size (by omega)).trans HR0.out)
  have HB1 : Hid (Below w.heap.size w w1) := Lib.hid (HB0.out.trans hb1)
  have HZ1 : Hid (w.heap.size + 2 ≤ w1.heap.size) := Lib.hid (by have := hx1.lt; omega)
  clear hx1 ho1 hk1 hb1 HS0 HR0 HB0 z0
  go_wp2
  go_loopw [15] (fun i wr => ∃ (k : Nat) (tv : Value), k ≤ n' ∧ i = .int .i64 k ∧ Hid (Bx wr (w.heap.size + 1) #[tv, .slice A' n' c'] 72) ∧ Hid (wr.ownsRow (w.heap.size + 1 + 1) 3 1 tv (n + k) (cI (ah ++ comsP (l.take k)))) ∧ Hid (Bx wr w.heap.size #[.slice none 0 0, .slice none 0 0] 72) ∧ Hid (Below w.heap.size w wr) ∧ Hid (w.heap.size + 2 ≤ wr.heap.size)) (fun i _ => n' - (intOf i).toNat)
  case atStart => exact ⟨0, v1, Nat.zero_le _, rfl, HS1, HO1, HR1, HB1, HZ1⟩
  case round =>
    clear HS1 HO1 HR1 HB1 HZ1
    obtain ⟨k, tv, hk, rfl, HS, HO, HR, HB, HZ⟩ := hrel
    by_cases hlt : k < n'
    · obtain ⟨a, x, y, z, rfl, hab, hcx, hcy, hcz, HP⟩ := (H'.out.below HB.out).ProofAt hlt
      have i0 : (0 : Int) ≤ (k : Int) := by omega
      have i1 : (k : Int) < (n' : Int) := by omega
      have HT := Lib.hid (comsP_take l k (by have := HL.out; omega) HP.out)
      clear HP
      go_wp2_with fail
      rw [inv_com_Proof]
      go_wp2_with fail
      refine (i_commitments_Proof x y z _).mono ?_
      rintro e w2 ⟨Ac, rfl, hrc, hb2⟩
      have hbs : Below wr.heap.size wr w2 := ((Below.refl _ wr).alloc (Nat.le_refl _) _).trans (hb2.mono (by simp))
      have HS2 := Lib.hid (HS.out.below hbs HS.out.lt)
      have HR2 := Lib.hid (HR.out.below hbs HR.out.lt)
      have HO2 := Lib.hid (ownsRow_below HO.out hbs)
      have HB2 : Hid (Below w.heap.size w w2) := Lib.hid (HB.out.trans (hbs.mono HB.out.size))
      have HZ2 : Hid (w.heap.size + 2 ≤ w2.heap.size) := Lib.hid (by have := HZ.out; have := hbs.size; omega)
      have HRC := Lib.hid hrc
      clear hb2 hbs hrc HS HR HO HB HZ hcx hcy hcz
      go_wp2_with fail
      refine (i_add (w.heap.size + 1) 72 (n + k) 1 1 w.heap.size w2.heap.size Ac tv (.slice (some a) n' c') (ah ++ comsP (l.take k)) [x] w2 HS2.out HO2.out HRC.out (by omega) (by omega)).mono ?_
      rintro e w3 ⟨v3, rfl, hx3, ho3, hk3, hb3⟩
      have HS3 := Lib.hid hx3
      have HO3 : Hid (w3.ownsRow (w.heap.size + 1 + 1) 3 1 v3 (n + (k + 1)) (cI (ah ++ comsP (l.take (k + 1))))) := Lib.hid (by rw [HT.out, ← List.append_assoc, show n + (k + 1) = n + k + 1 by omega]; exact ho3)
      have HR3 : Hid (Bx w3 w.heap.size #[.slice none 0 0, .slice none 0 0] 72) := Lib.hid ((hk3.out w.heap.size (by omega)).trans HR2.out)
      have HB3 : Hid (Below w.heap.size w w3) := Lib.hid (HB2.out.trans hb3)
      have HZ3 : Hid (w.heap.size + 2 ≤ w3.heap.size) := Lib.hid (by have := HZ2.out; have := hb3.size; omega)
      clear hx3 ho3 hk3 hb3 HS2 HR2 HO2 HB2 HZ2 HRC HT
      go_wp2
      go_roundw
      case rel => exact ⟨k + 1, v3, by omega, by go_num, HS3, HO3, HR3, HB3, HZ3⟩
      case measure => simp [intOf] <;> omega
    · have hkn : k = n' := by omega
      have HO2 : Hid (wr.ownsRow (w.heap.size + 1 + 1) 3 1 tv (n + n') (cI (ah ++ comsP l))) := Lib.hid (by
        have := HO.out; rw [hkn, List.take_of_length_le (by have := HL.out; omega)] at this; exact this)
      clear HO hkn
      obtain ⟨A5, c5, hv, ho⟩ := Ow.of_own HO2.out
      subst hv
      have HO3 := Lib.hid ho
      clear ho HO2
      have s0 : wr.cell? ⟨w.heap.size + 1, 0, none⟩ = some (.slice A5 (n + n') c5) := HS.out.cell 0
      have s1 : wr.cell? ⟨w.heap.size + 1, 1, none⟩ = some (.slice A' n' c') := HS.out.cell 1
      have r0 : wr.cell? ⟨w.heap.size, 0, none⟩ = some (.slice none 0 0) := HR.out.cell 0
      have r1 : wr.cell? ⟨w.heap.size, 1, none⟩ = some (.slice none 0 0) := HR.out.cell 1
      have g0 : wr.frozen? ⟨w.heap.size, 0, none⟩ = false := HR.out.free 0
      have g1 : wr.frozen? ⟨w.heap.size, 1, none⟩ = false := HR.out.free 1
      go_wp2
      have hk2 := st14_2 wr w.heap.size (.slice A5 (n + n') c5) (.slice A' n' c')
      exact bodyPost_ret (v := .agg #[.slice A5 (n + n') c5, .slice A' n' c']) (resSigProof1 rfl rfl ((HR.out.set 0 (.slice A5 (n + n') c5)).set 1 (.slice A' n' c'))) rfl
        ⟨A5, c5, rfl, ((HO3.out.kept hk2 (Nat.le_refl _) (.inl (by omega))).widen (by omega) hk2.size), HB.out.trans ((hk2.to_below (by have := HZ.out; omega)).mono (Nat.le_refl _))⟩
theorem inforesSigTwin : (Try.prog.info? 89).map (·.size) = some 2 := by kernel_rfl
theorem resSigTwin1 {fn : Func} {t : Tmp} {tmps : Array Value} {w : World} {g : Nat} {a0 a1 : Value} (h : fn.results = #[.cell t 89]) (ht : tmps.getD t undef = .pointer (some ⟨g, 0, none⟩)) (hb : Bx w g #[a0, a1] 89) :
    (results fn tmps).run Try.prog w = .ok (.agg #[a0, a1]) w := by
  have hr : w.rangeAt g 0 [a0, a1] := fun j v hv => by
    rw [Nat.zero_add, cell_of_row w g j _ _ (0, 0) hb]; simpa using hv
  have := run_loadVar_mid (P := Try.prog) w g 0 89 [a0, a1] _ hr Try.underlying89 rfl inforesSigTwin
  have ht2 : tmps[t]?.getD undef = .pointer (some ⟨g, 0, none⟩) := by rw [← ht]; simp
  simp [results, h, ht2, this, asAddr]
theorem resSigTwin2 {fn : Func} {t u : Tmp} {tmps : Array Value} {w : World} {g : Nat} {a0 a1 x : Value} (h : fn.results = #[.cell t 89, .tmp u]) (ht : tmps.getD t undef = .pointer (some ⟨g, 0, none⟩)) (hu : tmps.getD u undef = x) (hb : Bx w g #[a0, a1] 89) :
    (results fn tmps).run Try.prog w = .ok (.tuple #[.agg #[a0, a1], x]) w := by
  have hr : w.rangeAt g 0 [a0, a1] := fun j v hv => by
    rw [Nat.zero_add, cell_of_row w g j _ _ (0, 0) hb]; simpa using hv
  have := run_loadVar_mid (P := Try.prog) w g 0 89 [a0, a1] _ hr Try.underlying89 rfl inforesSigTwin
  have ht2 : tmps[t]?.getD undef = .pointer (some ⟨g, 0, none⟩) := by rw [← ht]; simp
  subst hu
  simp [results, h, ht2, this, asAddr]
theorem inv_com_Twin (n : Nat) (a b c d : Value) (W : World) : (method (n + 1) 76 (.agg #[a, b, c, d]) "loop.example/underveil/impl.commitments").run Try.prog W = .ok (139, .agg #[a, b, c, d]) W := by kernel_rfl

set_option maxHeartbeats 1000000 in
theorem i_commitments_Twin (x y z u : Int) (w : World) :
    Calls Try.prog 139 #[.agg #[.int .i64 x, .int .i64 y, .int .i64 z, .int .i64 u]] w fun e w' => ∃ A, e = .returned (.slice A 2 2) ∧ Rd w' w'.heap.size 1 A 2 (cI [x, y]) ∧ Below w.heap.size w w' := by
  go_enter Try.func139, Try.ntmps139
  go_wp2
  go_ret
  refine ⟨_, rfl, ?_, ((Below.refl _ _).alloc (Nat.le_refl _) _).alloc (by simp only [World.size_alloc]; omega) _⟩
  have := (Bx.new (w.alloc (.cells #[.int .i64 x, .int .i64 y, .int .i64 z, .int .i64 u] 76)) #[.int .i64 x, .int .i64 y] 3).rdI (zs := [x, y]) rfl
  simp only [World.size_alloc] at this ⊢; exact this
theorem comsT_take (l : List Tw) (k : Nat) (h : k < l.length) {x y z u : Int} (e : l.getD k (0, 0, 0, 0) = (x, y, z, u)) : comsT (l.take (k + 1)) = comsT (l.take k) ++ [x, y] := by
  rw [List.take_succ_eq_append_getElem h]
  have : l[k] = (x, y, z, u) := by rw [← e]; simp [h]
  rw [this]; simp [comsT]
set_option maxHeartbeats 8000000 in
theorem i_signing_Twin (A : Option Addr) (n c : Nat) (ah : List Int) (A' : Option Addr) (n' c' : Nat) (l : List Tw) (w : World) (h : Rd w w.heap.size 1 A n (cI ah)) (h' : Rd w w.heap.size 4 A' n' (cTwin l)) (hn : n ≤ 8388608) (hn' : n' ≤ 1048576) :
    Calls Try.prog 99 #[.slice A n c, .slice A' n' c'] w fun e w' => ∃ A2 c2, e = .returned (.agg #[.slice A2 (n + 2 * n') c2, .slice A' n' c']) ∧ Ow w' w.heap.size w'.heap.size 3 1 A2 (n + 2 * n') c2 (cI (ah ++ comsT l)) ∧ Below w.heap.size w w' := by
  have H := Lib.hid h
  have H' := Lib.hid h'
  have HL := Lib.hid h'.Twinlen
  clear h h'
  obtain ⟨W0, hW0⟩ : ∃ W, Hid ((w.alloc (.cells #[.slice none 0 0, .slice none 0 0] 89)).alloc (.cells #[.slice none 0 0, .slice A' n' c'] 89) = W) := ⟨_, Lib.hid rfl⟩
  have HB0 : Hid (Below w.heap.size w W0) := Lib.hid (by rw [← hW0.out]; exact ((Below.refl _ _).alloc (Nat.le_refl _) _).alloc (by simp only [World.size_alloc]; omega) _)
  have HR0 : Hid (Bx W0 w.heap.size #[.slice none 0 0, .slice none 0 0] 89) := Lib.hid (by rw [← hW0.out]; exact (Bx.new _ _ _).alloc _)
  have HS0 : Hid (Bx W0 (w.heap.size + 1) #[.slice none 0 0, .slice A' n' c'] 89) := Lib.hid (by rw [← hW0.out]; have := Bx.new (w.alloc (.cells #[.slice none 0 0, .slice none 0 0] 89)) #[.slice none 0 0, .slice A' n' c'] 89; simp only [World.size_alloc] at this; exact this)
  have z0 := HB0.out.size
  go_enter Try.func99, Try.ntmps99
  go_wp2_with fail
  rw [hW0.out]
  clear hW0
  refine (i_add (w.heap.size + 1) 89 0 n c w.heap.size w.heap.size A (.slice none 0 0) (.slice A' n' c') [] ah W0 HS0.out ⟨by simp [cI], .inl ⟨rfl, rfl⟩⟩ (H.out.below HB0.out) (by omega) (by omega)).mono ?_
  rintro e w1 ⟨v1, rfl, hx1, ho1, hk1, hb1⟩
  have HS1 := Lib.hid hx1
  have HO1 : Hid (w1.ownsRow (w.heap.size + 1 + 1) 3 1 v1 (n + 2 * 0) (cI (ah ++ comsT (l.take 0)))) := Lib.hid (by rw [Nat.zero_add, List.nil_append] at ho1; simpa [comsT] using ho1)
  have HR1 : Hid (Bx w1 w.heap.size #[.slice none 0 0, .slice none 0 0] 89) := Lib.hid ((hk1.out w.heap.size (by omega)).trans HR0.out)
  have HB1 : Hid (Below w.heap.size w w1) := Lib.hid (HB0.out.trans hb1)
  have HZ1 : Hid (w.heap.size + 2 ≤ w1.heap.size) := Lib.hid (by have := hx1.lt; omega)
  clear hx1 ho1 hk1 hb1 HS0 HR0 HB0 z0
  go_wp2
  go_loopw [15] (fun i wr => ∃ (k : Nat) (tv : Value), k ≤ n' ∧ i = .int .i64 k ∧ Hid (Bx wr (w.heap.size + 1) #[tv, .slice A' n' c'] 89) ∧ Hid (wr.ownsRow (w.heap.size + 1 + 1) 3 1 tv (n + 2 * k) (cI (ah ++ comsT (l.take k)))) ∧ Hid (Bx wr w.heap.size #[.slice none 0 0, .slice none 0 0] 89) ∧ Hid (Below w.heap.size w wr) ∧ Hid (w.heap.size + 2 ≤ wr.heap.size)) (fun i _ => n' - (intOf i).toNat)
  case atStart => exact ⟨0, v1, Nat.zero_le _, rfl, HS1, HO1, HR1, HB1, HZ1⟩
  case round =>
    clear HS1 HO1 HR1 HB1 HZ1
    obtain ⟨k, tv, hk, rfl, HS, HO, HR, HB, HZ⟩ := hrel
    by_cases hlt : k < n'
    · obtain ⟨a, x, y, z, u, rfl, hab, hcx, hcy, hcz, hcu, HP⟩ := (H'.out.below HB.out).TwinAt hlt
      have i0 : (0 : Int) ≤ (k : Int) := by omega
      have i1 : (k : Int) < (n' : Int) := by omega
      have HT := Lib.hid (comsT_take l k (by have := HL.out; omega) HP.out)
      clear HP
      go_wp2_with fail
      rw [inv_com_Twin]
      go_wp2_with fail
      refine (i_commitments_Twin x y z u _).mono ?_
      rintro e w2 ⟨Ac, rfl, hrc, hb2⟩
      have hbs : Below wr.heap.size wr w2 := ((Below.refl _ wr).alloc (Nat.le_refl _) _).trans (hb2.mono (by simp))
      have HS2 := Lib.hid (HS.out.below hbs HS.out.lt)
      have HR2 := Lib.hid (HR.out.below hbs HR.out.lt)
      have HO2 := Lib.hid (ownsRow_below HO.out hbs)
      have HB2 : Hid (Below w.heap.size w w2) := Lib.hid (HB.out.trans (hbs.mono HB.out.size))
      have HZ2 : Hid (w.heap.size + 2 ≤ w2.heap.size) := Lib.hid (by have := HZ.out; have := hbs.size; omega)
      have HRC := Lib.hid hrc
      clear hb2 hbs hrc HS HR HO HB HZ hcx hcy hcz hcu
      go_wp2_with fail
      refine (i_add (w.heap.size + 1) 89 (n + 2 * k) 2 2 w.heap.size w2.heap.size Ac tv (.slice (some a) n' c') (ah ++ comsT (l.take k)) [x, y] w2 HS2.out HO2.out HRC.out (by omega) (by omega)).mono ?_
      rintro e w3 ⟨v3, rfl, hx3, ho3, hk3, hb3⟩
      have HS3 := Lib.hid hx3
      have HO3 : Hid (w3.ownsRow (w.heap.size + 1 + 1) 3 1 v3 (n + 2 * (k + 1)) (cI (ah ++ comsT (l.take (k + 1))))) := Lib.hid (by rw [HT.out, ← List.append_assoc, show n + 2 * (k + 1) = n + 2 * k + 2 by omega]; exact ho3)
      have HR3 : Hid (Bx w3 w.heap.size #[.slice none 0 0, .slice none 0 0] 89) := Lib.hid ((hk3.out w.heap.size (by omega)).trans HR2.out)
      have HB3 : Hid (Below w.heap.size w w3) := Lib.hid (HB2.out.trans hb3)
      have HZ3 : Hid (w.heap.size + 2 ≤ w3.heap.size) := Lib.hid (by have := HZ2.out; have := hb3.size; omega)
      clear hx3 ho3 hk3 hb3 HS2 HR2 HO2 HB2 HZ2 HRC HT
      go_wp2
      go_roundw
      case rel => exact ⟨k + 1, v3, by omega, by go_num, HS3, HO3, HR3, HB3, HZ3⟩
      case measure => simp [intOf] <;> omega
    · have hkn : k = n' := by omega
      have HO2 : Hid (wr.ownsRow (w.heap.size + 1 + 1) 3 1 tv (n + 2 * n') (cI (ah ++ comsT l))) := Lib.hid (by
        have := HO.out; rw [hkn, List.take_of_length_le (by have := HL.out; omega)] at this; exact this)
      clear HO hkn
      obtain ⟨A5, c5, hv, ho⟩ := Ow.of_own HO2.out
      subst hv
      have HO3 := Lib.hid ho
      clear ho HO2
      have s0 : wr.cell? ⟨w.heap.size + 1, 0, none⟩ = some (.slice A5 (n + 2 * n') c5) := HS.out.cell 0
      have s1 : wr.cell? ⟨w.heap.size + 1, 1, none⟩ = some (.slice A' n' c') := HS.out.cell 1
      have r0 : wr.cell? ⟨w.heap.size, 0, none⟩ = some (.slice none 0 0) := HR.out.cell 0
      have r1 : wr.cell? ⟨w.heap.size, 1, none⟩ = some (.slice none 0 0) := HR.out.cell 1
      have g0 : wr.frozen? ⟨w.heap.size, 0, none⟩ = false := HR.out.free 0
      have g1 : wr.frozen? ⟨w.heap.size, 1, none⟩ = false := HR.out.free 1
      go_wp2
      have hk2 := st14_2 wr w.heap.size (.slice A5 (n + 2 * n') c5) (.slice A' n' c')
      exact bodyPost_ret (v := .agg #[.slice A5 (n + 2 * n') c5, .slice A' n' c']) (resSigTwin1 rfl rfl ((HR.out.set 0 (.slice A5 (n + 2 * n') c5)).set 1 (.slice A' n' c'))) rfl
        ⟨A5, c5, rfl, ((HO3.out.kept hk2 (Nat.le_refl _) (.inl (by omega))).widen (by omega) hk2.size), HB.out.trans ((hk2.to_below (by have := HZ.out; omega)).mono (Nat.le_refl _))⟩
end Go.Proofs.Ytdhakbpimbadgaa
