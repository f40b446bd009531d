/- What the plain laws draw from bytes: a reader opened; points. -/
import Derived.Test.YtbnobkojkfmccaaDraw2b
import Derived.Test.YtbnobkojkfmccaaWalk5e
namespace Go.Proofs.Ytbnobkojkfmccaa
open Go.RowKit
set_option maxRecDepth 100000

theorem grow_pt {w wr w6 : World} {g hi q k co : Nat} {Ao : Option Addr} {ps : List (Int × Int)} {A : Option Addr} {n c : Nat} {bs : List Int} {o : Obj}
    (HO : wr.ownsRow w.heap.size 61 2 (.slice Ao k co) k (cP ps)) (HR : Rdr wr g hi q A n c bs) (HK : Kept g (g + 1) w wr) (hg : g < w.heap.size) (hgr : (wr.alloc o).grownBy w6 (Value.ownBlock (.slice Ao k co))) :
    Rdr w6 g hi q A n c bs ∧ Kept g (g + 1) w w6 := by
  have hz := HK.size
  have hlow := HR.low
  have hown := own_block HO
  constructor
  · refine HR.move ?_ ?_
    · rw [hgr.block g (by simp; have := HR.lt; omega) (fun e => by have := hown g e.symm; omega)]
      exact Below.heap_alloc wr o g HR.lt
    · exact below_grown ((Below.refl hi wr).alloc (by have := HR.lt; omega) o) hgr (fun k e => by have := hown k e; omega) (by simp; have := HR.lt; omega)
  · refine ⟨hgr.os.trans HK.os, hgr.tape.trans HK.tape, hgr.output.trans HK.output, Nat.le_trans hz (Nat.le_trans (by simp) hgr.size), fun k hk hn => ?_⟩
    rw [hgr.block k (by simp; omega) (fun e => by have := hown k e.symm; omega), Below.heap_alloc wr o k (by omega)]
    exact HK.block k hk hn
theorem own_keptG {w' wr : World} {B e s n g : Nat} {v : Value} {xs : List Value} (h : wr.ownsRow B e s v n xs) (hk : Kept g (g + 1) wr w') (hg : g < B) : w'.ownsRow B e s v n xs := by
  refine ⟨h.1, ?_⟩
  rcases h.2 with h0 | ⟨g', cap, cur, rfl, hb, hh, r⟩
  · exact .inl h0
  · exact .inr ⟨g', cap, cur, rfl, hb, by rw [hk.block g' (Array.getElem?_eq_some_iff.1 hh).1 (by omega)]; exact hh, r⟩

set_option maxHeartbeats 4000000 in
theorem d_l91Points (g hi p M : Nat) (A : Option Addr) (n c : Nat) (bs : List Int) (w : World) (h : Rdr w g hi p A n c bs) (hp : p < 900000) (hM : M ≤ 7) :
    Calls Try.prog 84 #[.pointer (some ⟨g, 0, none⟩), .int .i64 M, .int .i64 1] w fun e w' => ∃ v d q, e = .returned v ∧ OwPointS w' w.heap.size w'.heap.size v d ∧ d.length ≤ 8 ∧ q ≤ p + 15 ∧ Rdr w' g hi q A n c bs ∧ Kept g (g + 1) w w' := by
  have HG := Lib.hid h.lt
  have H0 := Lib.hid (h.alloc (.cells #[] 61))
  have K0 := Lib.hid (kept_alloc g (g + 1) w (.cells #[] 61))
  have O0 : Hid ((w.alloc (.cells #[] 61)).ownsRow w.heap.size 61 2 (.slice (some ⟨w.heap.size, 0, none⟩) 0 0) 0 (cP [])) := Lib.hid (own_empty w _ 2)
  clear h
  go_enter Try.func84, Try.ntmps84
  go_wp2
  go_loopw [7, 8] (fun out i wr => ∃ (k : Nat) (Ao : Option Addr) (co m q : Nat) (ps : List (Int × Int)), k ≤ M ∧ m ≤ k ∧ q ≤ p + 2 * k ∧ i = .int .i64 ((k : Int) + 1) ∧ out = .slice Ao m co ∧ Hid (wr.ownsRow w.heap.size 61 2 (.slice Ao m co) m (cP ps)) ∧ Hid (Rdr wr g hi q A n c bs) ∧ Hid (Kept g (g + 1) w wr)) (fun _ i _ => M + 1 - (intOf i).toNat)
  case atStart => exact ⟨0, _, 0, 0, p, [], Nat.zero_le _, Nat.le_refl _, by omega, rfl, rfl, O0, H0, K0⟩
  case round =>
    clear O0 H0 K0
    obtain ⟨k, Ao, co, m, q, ps, hk, hm, hq, rfl, rfl, HO, HR, HK⟩ := hrel
    by_cases hlt : k < M
    · have i1 : (k : Int) + 1 ≤ (M : Int) := by omega
      go_wp2_with fail
      refine (d_pick _ _ _ _ _ _ _ _ _ HR.out (by omega) (by omega) (by omega)).mono ?_
      rintro e w1 ⟨z, rfl, z0, z1, h1, k1⟩
      have HO1 := Lib.hid (own_keptG HO.out k1 HG.out)
      have HR1 := Lib.hid h1
      have HK1 := Lib.hid (HK.out.trans k1)
      clear h1 k1 HO HR HK
      by_cases hz : 0 < z
      · go_wp2_with fail
        refine (d_pick _ _ _ _ _ _ _ _ _ HR1.out (by omega) (by omega) (by omega)).mono ?_
        rintro e w2 ⟨y, rfl, y0, y1, h2, k2⟩
        have HO2 := Lib.hid (own_keptG HO1.out k2 HG.out)
        have HR2 := Lib.hid h2
        have HK2 := Lib.hid (HK1.out.trans k2)
        clear h2 k2 HO1 HR1 HK1
        have hzw := HK2.out.size
        go_wp2_with (at_builtin
                     refine wpList_append_rd rfl (.tmp 19) (.tmp 24) _ rfl w.heap.size 61 _ 2 16 Try.underlying50 info_pt rfl (by decide) (.slice Ao m co) m _ rfl (HO2.out.alloc _) _ _ 1 1 (cP [((k : Int) + 1, y)]) rfl (lit_pt_at (heap_alloc_new _ _)) (cP_one _) (by unfold maxLen; omega) (by omega) (by simp; omega) ?_
                     intro v6 w6 hown hgr hat
                     obtain ⟨A6, c6, hv6, ho6⟩ := Ow.of_own hown
                     subst hv6
                     have HO6 : Hid (w6.ownsRow w.heap.size 61 2 (.slice A6 (m + 1) c6) (m + 1) (cP (ps ++ [((k : Int) + 1, y)]))) := Lib.hid (by rw [cP_append]; exact hown)
                     have HG6 := grow_pt HO2.out HR2.out HK2.out HG.out hgr
                     have HR6 := Lib.hid HG6.1
                     have HK6 := Lib.hid HG6.2
                     clear HG6 hown hgr hat ho6)
        go_roundw
        case rel => exact ⟨k + 1, A6, c6, m + 1, _, _, by omega, by omega, by omega, by go_num, rfl, HO6, HR6, HK6⟩
        case measure => simp [intOf] <;> omega
      · go_wp2
        go_roundw
        case rel => exact ⟨k + 1, Ao, co, m, _, _, by omega, by omega, by omega, by go_num, rfl, HO1, HR1, HK1⟩
        case measure => simp [intOf] <;> omega
    · have i1 : ¬ ((k : Int) + 1 ≤ (M : Int)) := by omega
      have hm8 : m ≤ 7 := by omega
      go_wp2_with fail
      refine (d_pick _ _ _ _ _ _ _ _ _ HR.out (by omega) (by omega) (by omega)).mono ?_
      rintro e w1 ⟨z, rfl, z0, z1, h1, k1⟩
      have HO1 := Lib.hid (own_keptG HO.out k1 HG.out)
      have HR1 := Lib.hid h1
      have HK1 := Lib.hid (HK.out.trans k1)
      clear h1 k1 HO HR HK
      have hzw := HK1.out.size
      have fin : ∀ (w6 : World) (A6 : Option Addr) (c6 m6 : Nat) (qs : List (Int × Int)), w6.ownsRow w.heap.size 61 2 (.slice A6 m6 c6) m6 (cP qs) → m6 ≤ 8 → OwPointS w6 w.heap.size w6.heap.size (.slice A6 m6 c6) qs ∧ qs.length ≤ 8 := fun w6 A6 c6 m6 qs ho h8 => by
        have := done_pts ho (by omega)
        refine ⟨this, ?_⟩
        have h1 := ho.1
        rw [cP_length] at h1; omega
      have FIN := Lib.hid fin
      clear fin
      by_cases e0 : z = 0
      · have b0 : (z == 0) = true := by simp [e0]
        clear e0
        go_wp2_with (at_builtin
                     refine wpList_append_rd rfl (.tmp 30) (.tmp 33) _ rfl w.heap.size 61 _ 2 16 Try.underlying50 info_pt rfl (by decide) (.slice Ao m co) m _ rfl (HO1.out.alloc _) _ _ 1 1 (cP [(1, 1)]) rfl (lit_pt_at (heap_alloc_new _ _)) (cP_one _) (by unfold maxLen; omega) (by omega) (by simp; omega) ?_
                     intro v6 w6 hown hgr hat
                     obtain ⟨A6, c6, hv6, ho6⟩ := Ow.of_own hown
                     subst hv6
                     have HO6 : Hid (w6.ownsRow w.heap.size 61 2 (.slice A6 (m + 1) c6) (m + 1) (cP (ps ++ [(1, 1)]))) := Lib.hid (by rw [cP_append]; exact hown)
                     have HG6 := grow_pt HO1.out HR1.out HK1.out HG.out hgr
                     have HR6 := Lib.hid HG6.1
                     have HK6 := Lib.hid HG6.2
                     clear HG6 hown hgr hat ho6)
        go_ret
        exact ⟨_, _, _, rfl, (FIN.out _ _ _ _ _ HO6.out (by omega)).1, (FIN.out _ _ _ _ _ HO6.out (by omega)).2, by omega, HR6.out, HK6.out⟩
      · have b0 : (z == 0) = false := by rw [beq_eq_false_iff_ne]; exact e0
        by_cases e1 : z = 1
        · have b1 : (z == 1) = true := by simp [e1]
          clear e1 e0
          go_wp2_with (at_builtin
                       refine wpList_append_rd rfl (.tmp 37) (.tmp 39) _ rfl w.heap.size 61 _ 2 16 Try.underlying50 info_pt rfl (by decide) (.slice Ao m co) m _ rfl (HO1.out.alloc _) _ _ 1 1 (cP [(0, 5)]) rfl (lit_pt_at (heap_alloc_new _ _)) (cP_one _) (by unfold maxLen; omega) (by omega) (by simp; omega) ?_
                       intro v6 w6 hown hgr hat
                       obtain ⟨A6, c6, hv6, ho6⟩ := Ow.of_own hown
                       subst hv6
                       have HO6 : Hid (w6.ownsRow w.heap.size 61 2 (.slice A6 (m + 1) c6) (m + 1) (cP (ps ++ [(0, 5)]))) := Lib.hid (by rw [cP_append]; exact hown)
                       have HG6 := grow_pt HO1.out HR1.out HK1.out HG.out hgr
                       have HR6 := Lib.hid HG6.1
                       have HK6 := Lib.hid HG6.2
                       clear HG6 hown hgr hat ho6)
          go_ret
          exact ⟨_, _, _, rfl, (FIN.out _ _ _ _ _ HO6.out (by omega)).1, (FIN.out _ _ _ _ _ HO6.out (by omega)).2, by omega, HR6.out, HK6.out⟩
        · have b1 : (z == 1) = false := by rw [beq_eq_false_iff_ne]; exact e1
          by_cases e2 : z = 2
          · have b2 : (z == 2) = true := by simp [e2]
            clear e1 e0 e2
            go_wp2_with (at_builtin
                         refine wpList_append_rd rfl (.tmp 43) (.tmp 45) _ rfl w.heap.size 61 _ 2 16 Try.underlying50 info_pt rfl (by decide) (.slice Ao m co) m _ rfl (HO1.out.alloc _) _ _ 1 1 (cP [(100, -1)]) rfl (lit_pt_at (heap_alloc_new _ _)) (cP_one _) (by unfold maxLen; omega) (by omega) (by simp; omega) ?_
                         intro v6 w6 hown hgr hat
                         obtain ⟨A6, c6, hv6, ho6⟩ := Ow.of_own hown
                         subst hv6
                         have HO6 : Hid (w6.ownsRow w.heap.size 61 2 (.slice A6 (m + 1) c6) (m + 1) (cP (ps ++ [(100, -1)]))) := Lib.hid (by rw [cP_append]; exact hown)
                         have HG6 := grow_pt HO1.out HR1.out HK1.out HG.out hgr
                         have HR6 := Lib.hid HG6.1
                         have HK6 := Lib.hid HG6.2
                         clear HG6 hown hgr hat ho6)
            go_ret
            exact ⟨_, _, _, rfl, (FIN.out _ _ _ _ _ HO6.out (by omega)).1, (FIN.out _ _ _ _ _ HO6.out (by omega)).2, by omega, HR6.out, HK6.out⟩
          · have b2 : (z == 2) = false := by rw [beq_eq_false_iff_ne]; exact e2
            clear e1 e0 e2
            go_wp2
            go_ret
            exact ⟨_, _, _, rfl, (FIN.out _ _ _ _ _ HO1.out (by omega)).1, (FIN.out _ _ _ _ _ HO1.out (by omega)).2, by omega, HR1.out, HK1.out⟩

set_option maxHeartbeats 1000000 in
theorem d_DrawSharesExplain (A : Option Addr) (n c : Nat) (bs : List Int) (w : World) (h : Rd w w.heap.size 1 A n (cU bs)) (hb : Byt bs) (hn : n ≤ 1048576) (hc : n ≤ c) :
    Calls Try.prog 45 #[.slice A n c] w fun e w' => ∃ s v d, e = .returned (.tuple #[.int .i64 s, v]) ∧ OwPointS w' w.heap.size w'.heap.size v d ∧ d.length ≤ 8 ∧ Below w.heap.size w w' := by
  have H := Lib.hid h
  clear h
  go_enter Try.func45, Try.ntmps45
  go_wp2_with fail
  refine (d_l6Open _ _ _ _ _ H.out hb hn hc).mono ?_
  rintro e w1 ⟨rfl, ⟨A', n', c', bs', h1⟩, hb1⟩
  have H1 := Lib.hid h1
  have B1 := Lib.hid hb1
  clear h1 hb1
  go_wp2_with fail
  refine (d_l91Num _ _ _ _ _ _ _ _ H1.out (by omega)).mono ?_
  rintro e w2 ⟨z, q, rfl, _, hq, h2, k2⟩
  have H2 := Lib.hid h2
  have B2 : Hid (Below w.heap.size w w2) := Lib.hid (B1.out.trans (k2.to_below B1.out.size))
  clear h2 k2
  go_wp2_with fail
  refine (d_l91Points _ _ _ 6 _ _ _ _ _ H2.out (by omega) (by omega)).mono ?_
  rintro e w3 ⟨v, d, q3, rfl, ho, h8, _, _, k3⟩
  have B3 : Hid (Below w.heap.size w w3) := Lib.hid (B2.out.trans (k3.to_below B2.out.size))
  have HO := Lib.hid (ho.widen B2.out.size (Nat.le_refl _))
  clear ho k3
  go_wp2
  go_ret2
  exact ⟨_, _, _, rfl, HO.out, h8, B3.out⟩
end Go.Proofs.Ytbnobkojkfmccaa
