/- What chapter 12's plain laws draw from bytes. Made by tools/gen12/draws.py. -/
import Derived.Test.YtbabkaofhhaneaaDraw2b
import Derived.Test.YtbabkaofhhaneaaFaceB
import Derived.Test.YtbabkaofhhaneaaAppend
import Derived.Test.YtbabkaofhhaneaaFaceI
import Derived.Test.YtbabkaofhhaneaaWalk3b
import Derived.Test.YtbabkaofhhaneaaWalk2a
namespace Go.Proofs.Ytbabkaofhhaneaa
open Go.RowKit
set_option maxRecDepth 100000

theorem own_keptH {w' wr : World} {B e s n g : Nat} {v : Value} {xs : List Value} (h : wr.ownsRow B e s v n xs) (hk : Kept g (g + 1) wr w') (hg : g < B) : w'.ownsRow B e s v n xs := by
  refine ⟨h.1, ?_⟩
  rcases h.2 with h0 | ⟨g', cap, cur, rfl, hb, hh, r⟩
  · exact .inl h0
  · exact .inr ⟨g', cap, cur, rfl, hb, by rw [hk.block g' (Array.getElem?_eq_some_iff.1 hh).1 (by omega)]; exact hh, r⟩
theorem grow_any {w wr w6 : World} {g hi q k co e s : Nat} {Ao : Option Addr} {zs : List Value} {A : Option Addr} {n c : Nat} {bs : List Int} {o : Obj}
    (HO : wr.ownsRow w.heap.size e s (.slice Ao k co) k zs) (HR : Rdr wr g hi q A n c bs) (HK : Kept g (g + 1) w wr) (hg : g < w.heap.size) (hgr : (wr.alloc o).grownBy w6 (Value.ownBlock (.slice Ao k co))) :
    Rdr w6 g hi q A n c bs ∧ Kept g (g + 1) w w6 := by
  have hz := HK.size
  have hlow := HR.low
  have hown := own_block HO
  constructor
  · refine HR.move ?_ ?_
    · rw [hgr.block g (by simp; have := HR.lt; omega) (fun e => by have := hown g e.symm; omega)]
      exact Below.heap_alloc wr o g HR.lt
    · exact below_grown ((Below.refl hi wr).alloc (by have := HR.lt; omega) o) hgr (fun k e => by have := hown k e; omega) (by simp; have := HR.lt; omega)
  · refine ⟨hgr.os.trans HK.os, hgr.tape.trans HK.tape, hgr.output.trans HK.output, Nat.le_trans hz (Nat.le_trans (by simp) hgr.size), fun k hk hn => ?_⟩
    rw [hgr.block k (by simp; omega) (fun e => by have := hown k e.symm; omega), Below.heap_alloc wr o k (by omega)]
    exact HK.block k hk hn
theorem done_i {w1 : World} {B n c : Nat} {A : Option Addr} {ys : List Int} (h : w1.ownsRow B 3 1 (.slice A n c) n (cI ys)) (hs : n ≤ 1048576) : OwIntS w1 B w1.heap.size (.slice A n c) ys ∧ ys.length = n := by
  obtain ⟨A', c', he, ho⟩ := Ow.of_own h
  injection he with h1 h2 h3
  subst h1 h3
  exact ⟨⟨by have := ho.len; omega, A, n, c, rfl, ho⟩, ho.len⟩
theorem done_b {w1 : World} {B n c : Nat} {A : Option Addr} {ys : List Bool} (h : w1.ownsRow B 4 1 (.slice A n c) n (cB ys)) (hs : n ≤ 1048576) : OwBoolS w1 B w1.heap.size (.slice A n c) ys ∧ ys.length = n := by
  obtain ⟨A', c', he, ho⟩ := Ow.of_own h
  injection he with h1 h2 h3
  subst h1 h3
  exact ⟨⟨by have := ho.blen; omega, A, n, c, rfl, ho⟩, ho.blen⟩
theorem results_four {fn : Func} {t u v x : Tmp} (h : fn.results = #[.tmp t, .tmp u, .tmp v, .tmp x]) (tmps : Array Value) (P : Program) (w : World) :
    (results fn tmps).run P w = .ok (.tuple #[tmps.getD t undef, tmps.getD u undef, tmps.getD v undef, tmps.getD x undef]) w := by
  simp [results, h]
theorem nums_app {zs : List Int} {y : Int} (h : numsB zs = true) (y0 : 0 ≤ y) (y1 : y ≤ 112) : numsB (zs ++ [y]) = true := by
  unfold numsB at h ⊢
  rw [List.all_append, h, Bool.true_and]
  simp [(numB_iff y).2 ⟨y0, y1⟩]
theorem cI_app (xs ys : List Int) : cI (xs ++ ys) = cI xs ++ cI ys := by simp [cI]
theorem cB_app (xs ys : List Bool) : cB (xs ++ ys) = cB xs ++ cB ys := by simp [cB]

set_option maxHeartbeats 2000000 in
theorem d_l91NumsL (g hi p : Nat) (A : Option Addr) (n c : Nat) (bs : List Int) (N : Int) (w : World) (h : Rdr w g hi p A n c bs) (hp : p < 900000) (N0 : 0 ≤ N) (N1 : N ≤ 100) :
    Calls Try.prog 97 #[.pointer (some ⟨g, 0, none⟩), .int .i64 N] w fun e w' => ∃ v d q, e = .returned v ∧ OwIntS w' w.heap.size w'.heap.size v d ∧ ((d.length : Int) = N) ∧ q ≤ p + 500 ∧ Rdr w' g hi q A n c bs ∧ Kept g (g + 1) w w' := by
  obtain ⟨M, rfl⟩ := Int.eq_ofNat_of_zero_le N0
  have hM : M ≤ 100 := by omega
  have HG := Lib.hid h.lt
  have H0 := Lib.hid (h.alloc (.cells #[] 3))
  have K0 := Lib.hid (kept_alloc g (g + 1) w (.cells #[] 3))
  have O0 : Hid ((w.alloc (.cells #[] 3)).ownsRow w.heap.size 3 1 (.slice (some ⟨w.heap.size, 0, none⟩) 0 0) 0 (cI [])) := Lib.hid (own_empty w _ 1)
  clear h
  go_enter Try.func97, Try.ntmps97
  go_wp2
  go_loopw [5, 6] (fun out i wr => ∃ (k : Nat) (Ao : Option Addr) (co q : Nat) (zs : List Int), k ≤ M ∧ q ≤ p + 5 * k ∧ i = .int .i64 k ∧ out = .slice Ao k co ∧ Hid (wr.ownsRow w.heap.size 3 1 (.slice Ao k co) k (cI zs)) ∧ Hid (Rdr wr g hi q A n c bs) ∧ Hid (Kept g (g + 1) w wr)) (fun _ i _ => M - (intOf i).toNat)
  case atStart => exact ⟨0, _, 0, p, [], Nat.zero_le _, by omega, rfl, rfl, O0, H0, K0⟩
  case round =>
    clear O0 H0 K0
    obtain ⟨k, Ao, co, q, zs, hk, hq, rfl, rfl, HO, HR, HK⟩ := hrel
    by_cases hlt : k < M
    · have i1 : (k : Int) < (M : Int) := by omega
      go_wp2_with fail
      refine (d_l91Num _ _ _ _ _ _ _ _ HR.out (by omega)).mono ?_
      rintro e w2 ⟨y, q2, rfl, _, hq2, h2, k2⟩
      have HO2 := Lib.hid (own_keptH HO.out k2 HG.out)
      have HR2 := Lib.hid h2
      have HK2 := Lib.hid (HK.out.trans k2)
      clear h2 k2 HO HR HK
      have hzw := HK2.out.size
      have HL : Hid (Rd (w2.alloc (.cells #[.int .i64 y] 3)) (w2.heap.size + 1) 1 (some ⟨w2.heap.size, 0, none⟩) 1 (cI [y])) := Lib.hid (lit_at (heap_alloc_new _ _))
      go_wp2_with (at_builtin
                   refine wpList_append_rd rfl (.tmp 13) (.tmp 16) _ rfl w.heap.size 3 _ 1 8 Try.underlying22 info_int rfl (by decide) (.slice Ao k co) k _ rfl (HO2.out.alloc _) _ _ 1 1 (cI [y]) rfl HL.out (cI_one _) (by unfold maxLen; omega) (by omega) (by simp; omega) ?_
                   intro v6 w6 hown hgr hat
                   obtain ⟨A6, c6, hv6, ho6⟩ := Ow.of_own hown
                   subst hv6
                   have HO6 : Hid (w6.ownsRow w.heap.size 3 1 (.slice A6 (k + 1) c6) (k + 1) (cI (zs ++ [y]))) := Lib.hid (by rw [cI_app]; exact hown)
                   have HG6 := grow_any HO2.out HR2.out HK2.out HG.out hgr
                   have HR6 := Lib.hid HG6.1
                   have HK6 := Lib.hid HG6.2
                   clear HG6 hown hgr hat ho6)
      go_roundw
      case rel => exact ⟨k + 1, A6, c6, _, _, by omega, by omega, by go_num, rfl, HO6, HR6, HK6⟩
      case measure => simp [intOf] <;> omega
    · obtain rfl : M = k := by omega
      have HD := Lib.hid (done_i HO.out (by omega))
      go_wp2
      go_ret
      exact ⟨_, _, _, rfl, HD.out.1, by rw [HD.out.2], by omega, HR.out, HK.out⟩

set_option maxHeartbeats 2000000 in
theorem d_l91GoodL (g hi p : Nat) (A : Option Addr) (n c : Nat) (bs : List Int) (N : Int) (w : World) (h : Rdr w g hi p A n c bs) (hp : p < 900000) (N0 : 0 ≤ N) (N1 : N ≤ 100) :
    Calls Try.prog 96 #[.pointer (some ⟨g, 0, none⟩), .int .i64 N] w fun e w' => ∃ v d q, e = .returned v ∧ OwIntS w' w.heap.size w'.heap.size v d ∧ ((d.length : Int) = N ∧ numsB d = true) ∧ q ≤ p + 500 ∧ Rdr w' g hi q A n c bs ∧ Kept g (g + 1) w w' := by
  obtain ⟨M, rfl⟩ := Int.eq_ofNat_of_zero_le N0
  have hM : M ≤ 100 := by omega
  have HG := Lib.hid h.lt
  have H0 := Lib.hid (h.alloc (.cells #[] 3))
  have K0 := Lib.hid (kept_alloc g (g + 1) w (.cells #[] 3))
  have O0 : Hid ((w.alloc (.cells #[] 3)).ownsRow w.heap.size 3 1 (.slice (some ⟨w.heap.size, 0, none⟩) 0 0) 0 (cI [])) := Lib.hid (own_empty w _ 1)
  clear h
  go_enter Try.func96, Try.ntmps96
  go_wp2
  go_loopw [5, 6] (fun out i wr => ∃ (k : Nat) (Ao : Option Addr) (co q : Nat) (zs : List Int), k ≤ M ∧ q ≤ p + 5 * k ∧ i = .int .i64 k ∧ out = .slice Ao k co ∧ numsB zs = true ∧ Hid (wr.ownsRow w.heap.size 3 1 (.slice Ao k co) k (cI zs)) ∧ Hid (Rdr wr g hi q A n c bs) ∧ Hid (Kept g (g + 1) w wr)) (fun _ i _ => M - (intOf i).toNat)
  case atStart => exact ⟨0, _, 0, p, [], Nat.zero_le _, by omega, rfl, rfl, rfl, O0, H0, K0⟩
  case round =>
    clear O0 H0 K0
    obtain ⟨k, Ao, co, q, zs, hk, hq, rfl, rfl, hi_, HO, HR, HK⟩ := hrel
    by_cases hlt : k < M
    · have i1 : (k : Int) < (M : Int) := by omega
      go_wp2_with fail
      refine (d_pick _ _ _ _ _ _ _ _ _ HR.out (by omega) (by omega) (by omega)).mono ?_
      rintro e w2 ⟨y, rfl, y0, y1, h2, k2⟩
      have HO2 := Lib.hid (own_keptH HO.out k2 HG.out)
      have HR2 := Lib.hid h2
      have HK2 := Lib.hid (HK.out.trans k2)
      clear h2 k2 HO HR HK
      have hzw := HK2.out.size
      have HL : Hid (Rd (w2.alloc (.cells #[.int .i64 y] 3)) (w2.heap.size + 1) 1 (some ⟨w2.heap.size, 0, none⟩) 1 (cI [y])) := Lib.hid (lit_at (heap_alloc_new _ _))
      go_wp2_with (at_builtin
                   refine wpList_append_rd rfl (.tmp 13) (.tmp 16) _ rfl w.heap.size 3 _ 1 8 Try.underlying22 info_int rfl (by decide) (.slice Ao k co) k _ rfl (HO2.out.alloc _) _ _ 1 1 (cI [y]) rfl HL.out (cI_one _) (by unfold maxLen; omega) (by omega) (by simp; omega) ?_
                   intro v6 w6 hown hgr hat
                   obtain ⟨A6, c6, hv6, ho6⟩ := Ow.of_own hown
                   subst hv6
                   have HO6 : Hid (w6.ownsRow w.heap.size 3 1 (.slice A6 (k + 1) c6) (k + 1) (cI (zs ++ [y]))) := Lib.hid (by rw [cI_app]; exact hown)
                   have HG6 := grow_any HO2.out HR2.out HK2.out HG.out hgr
                   have HR6 := Lib.hid HG6.1
                   have HK6 := Lib.hid HG6.2
                   clear HG6 hown hgr hat ho6)
      go_roundw
      case rel => exact ⟨k + 1, A6, c6, _, _, by omega, by omega, by go_num, rfl, nums_app hi_ y0 (by omega), HO6, HR6, HK6⟩
      case measure => simp [intOf] <;> omega
    · obtain rfl : M = k := by omega
      have HD := Lib.hid (done_i HO.out (by omega))
      go_wp2
      go_ret
      exact ⟨_, _, _, rfl, HD.out.1, ⟨by rw [HD.out.2], hi_⟩, by omega, HR.out, HK.out⟩

set_option maxHeartbeats 2000000 in
theorem d_l92SetL (g hi p : Nat) (A : Option Addr) (n c : Nat) (bs : List Int) (N : Int) (w : World) (h : Rdr w g hi p A n c bs) (hp : p < 900000) (N0 : 0 ≤ N) (N1 : N ≤ 100) :
    Calls Try.prog 95 #[.pointer (some ⟨g, 0, none⟩), .int .i64 N] w fun e w' => ∃ v d q, e = .returned v ∧ OwBoolS w' w.heap.size w'.heap.size v d ∧ ((d.length : Int) = N) ∧ q ≤ p + 500 ∧ Rdr w' g hi q A n c bs ∧ Kept g (g + 1) w w' := by
  obtain ⟨M, rfl⟩ := Int.eq_ofNat_of_zero_le N0
  have hM : M ≤ 100 := by omega
  have HG := Lib.hid h.lt
  have H0 := Lib.hid (h.alloc (.cells #[] 4))
  have K0 := Lib.hid (kept_alloc g (g + 1) w (.cells #[] 4))
  have O0 : Hid ((w.alloc (.cells #[] 4)).ownsRow w.heap.size 4 1 (.slice (some ⟨w.heap.size, 0, none⟩) 0 0) 0 (cB [])) := Lib.hid (own_empty w _ 1)
  clear h
  go_enter Try.func95, Try.ntmps95
  go_wp2
  go_loopw [5, 6] (fun out i wr => ∃ (k : Nat) (Ao : Option Addr) (co q : Nat) (zs : List Bool), k ≤ M ∧ q ≤ p + 5 * k ∧ i = .int .i64 k ∧ out = .slice Ao k co ∧ Hid (wr.ownsRow w.heap.size 4 1 (.slice Ao k co) k (cB zs)) ∧ Hid (Rdr wr g hi q A n c bs) ∧ Hid (Kept g (g + 1) w wr)) (fun _ i _ => M - (intOf i).toNat)
  case atStart => exact ⟨0, _, 0, p, [], Nat.zero_le _, by omega, rfl, rfl, O0, H0, K0⟩
  case round =>
    clear O0 H0 K0
    obtain ⟨k, Ao, co, q, zs, hk, hq, rfl, rfl, HO, HR, HK⟩ := hrel
    by_cases hlt : k < M
    · have i1 : (k : Int) < (M : Int) := by omega
      go_wp2_with fail
      refine (d_pick _ _ _ _ _ _ _ _ _ HR.out (by omega) (by omega) (by omega)).mono ?_
      rintro e w2 ⟨y, rfl, y0, y1, h2, k2⟩
      have HO2 := Lib.hid (own_keptH HO.out k2 HG.out)
      have HR2 := Lib.hid h2
      have HK2 := Lib.hid (HK.out.trans k2)
      clear h2 k2 HO HR HK
      have hzw := HK2.out.size
      have HL : Hid (Rd (w2.alloc (.cells #[.bool (y == 0)] 4)) (w2.heap.size + 1) 1 (some ⟨w2.heap.size, 0, none⟩) 1 (cB [y == 0])) := Lib.hid (lit_at (heap_alloc_new _ _))
      go_wp2_with (at_builtin
                   refine wpList_append_rd rfl (.tmp 13) (.tmp 17) _ rfl w.heap.size 4 _ 1 1 Try.underlying26 info_bool rfl (by decide) (.slice Ao k co) k _ rfl (HO2.out.alloc _) _ _ 1 1 (cB [y == 0]) rfl HL.out (cB_one _) (by unfold maxLen; omega) (by omega) (by simp; omega) ?_
                   intro v6 w6 hown hgr hat
                   obtain ⟨A6, c6, hv6, ho6⟩ := Ow.of_own hown
                   subst hv6
                   have HO6 : Hid (w6.ownsRow w.heap.size 4 1 (.slice A6 (k + 1) c6) (k + 1) (cB (zs ++ [y == 0]))) := Lib.hid (by rw [cB_app]; exact hown)
                   have HG6 := grow_any HO2.out HR2.out HK2.out HG.out hgr
                   have HR6 := Lib.hid HG6.1
                   have HK6 := Lib.hid HG6.2
                   clear HG6 hown hgr hat ho6)
      go_roundw
      case rel => exact ⟨k + 1, A6, c6, _, _, by omega, by omega, by go_num, rfl, HO6, HR6, HK6⟩
      case measure => simp [intOf] <;> omega
    · obtain rfl : M = k := by omega
      have HD := Lib.hid (done_b HO.out (by omega))
      go_wp2
      go_ret
      exact ⟨_, _, _, rfl, HD.out.1, by rw [HD.out.2], by omega, HR.out, HK.out⟩

theorem keepI {w w' : World} {g lo hi : Nat} {v : Value} {d : List Int} (h : OwIntS w lo hi v d) (hk : Kept g (g + 1) w w') (hg : g < lo) (hz : hi ≤ w.heap.size) : OwIntS w' lo hi v d := h.kept hk hz (.inl hg)
theorem keepB {w w' : World} {g lo hi : Nat} {v : Value} {d : List Bool} (h : OwBoolS w lo hi v d) (hk : Kept g (g + 1) w w') (hg : g < lo) (hz : hi ≤ w.heap.size) : OwBoolS w' lo hi v d := h.kept hk hz (.inl hg)
set_option maxHeartbeats 2000000 in
theorem d_l92Table (g hi p : Nat) (A : Option Addr) (n c : Nat) (bs : List Int) (w : World) (h : Rdr w g hi p A n c bs) (hp : p < 800000) :
    Calls Try.prog 76 #[.pointer (some ⟨g, 0, none⟩)] w fun e w' => ∃ v d q, e = .returned v ∧ OwIntS w' w.heap.size w'.heap.size v d ∧ d.length ≤ 17 ∧ q ≤ p + 1010 ∧ Rdr w' g hi q A n c bs ∧ Kept g (g + 1) w w' := by
  have HG := Lib.hid h.lt
  have H := Lib.hid h
  clear h
  go_enter Try.func76, Try.ntmps76
  go_wp2_with fail
  refine (d_pick _ _ _ _ _ _ _ _ _ H.out (by omega) (by omega) (by omega)).mono ?_
  rintro e w1 ⟨z, rfl, z0, z8, h1, k1⟩
  have H1 := Lib.hid h1
  have K1 := Lib.hid k1
  clear h1 k1 H
  go_wp2_with fail
  refine (d_l91GoodL _ _ _ _ _ _ _ _ _ H1.out (by omega) (by omega) (by omega)).mono ?_
  rintro e w2 ⟨v2, d2, q2, rfl, ho2, hd2, hq2, h2, k2⟩
  have H2 := Lib.hid h2
  have s1 := K1.out.size
  have s2 := k2.size
  have K2 := Lib.hid (K1.out.trans k2)
  have O2 := Lib.hid (ho2.widen s1 (Nat.le_refl _))
  clear h2 k2 ho2 H1 K1
  go_wp2_with fail
  refine (d_pick _ _ _ _ _ _ _ _ _ H2.out (by omega) (by omega) (by omega)).mono ?_
  rintro e w3 ⟨y, rfl, y0, y30, h3, k3⟩
  have H3 := Lib.hid h3
  have s3 := k3.size
  have O3 := Lib.hid ((keepI O2.out k3 HG.out (Nat.le_refl _)).widen (Nat.le_refl _) s3)
  have K3 := Lib.hid (K2.out.trans k3)
  clear h3 k3 H2 K2 O2
  by_cases hy : y = 0
  · have hb : (y == 0) = true := by simp [hy]
    clear hy
    go_wp2_with fail
    refine (d_pick _ _ _ _ _ _ _ _ _ (H3.out.alloc _) (by omega) (by omega) (by omega)).mono ?_
    rintro e w4 ⟨x, rfl, x0, x4, h4, k4⟩
    obtain ⟨j, rfl⟩ := Int.eq_ofNat_of_zero_le x0
    have hc := lit4 _ k4 H3.out.lt
    have H4 := Lib.hid h4
    have s4 := k4.size
    rw [World.size_alloc] at s4
    have K4 := Lib.hid ((K3.out.trans (kept_alloc _ _ _ _)).trans k4)
    clear h4 k4 H3 K3 O3
    rcases four x4 with rfl | rfl | rfl | rfl
    all_goals
      have hc0 := hc 0 _ rfl
      have hc1 := hc 1 _ rfl
      have hc2 := hc 2 _ rfl
      have hc3 := hc 3 _ rfl
      clear hc
      go_wp2_with fail
      refine (d_l91NumsL _ _ _ _ _ _ _ _ _ H4.out (by omega) (by omega) (by omega)).mono ?_
      rintro e w5 ⟨v5, d5, q5, rfl, ho5, hd5, hq5, h5, k5⟩
      have H5 := Lib.hid h5
      have O5 := Lib.hid (ho5.widen (show w.heap.size ≤ _ by omega) (Nat.le_refl _))
      have K5 := Lib.hid (K4.out.trans k5)
      clear h5 k5 ho5 hc0 hc1 hc2 hc3
      go_wp2
      go_ret
      exact ⟨_, _, _, rfl, O5.out, by omega, by omega, H5.out, K5.out⟩
  · have hb : (y == 0) = false := by rw [beq_eq_false_iff_ne]; exact hy
    clear hy
    go_wp2
    go_ret
    exact ⟨_, _, _, rfl, O3.out, by omega, by omega, H3.out, K3.out⟩

set_option maxHeartbeats 2000000 in
theorem d_l92PairAsk (g hi p : Nat) (A : Option Addr) (n c : Nat) (bs : List Int) (w : World) (h : Rdr w g hi p A n c bs) (hp : p < 800000) :
    Calls Try.prog 73 #[.pointer (some ⟨g, 0, none⟩)] w fun e w' => ∃ v d i q, e = .returned (.tuple #[v, .int .i64 i]) ∧ OwBoolS w' w.heap.size w'.heap.size v d ∧ (-1 ≤ i ∧ i ≤ 1000) ∧ d.length ≤ 100 ∧ q ≤ p + 600 ∧ Rdr w' g hi q A n c bs ∧ Kept g (g + 1) w w' := by
  have HG := Lib.hid h.lt
  have H := Lib.hid h
  clear h
  go_enter Try.func73, Try.ntmps73
  go_wp2_with fail
  refine (d_pick _ _ _ _ _ _ _ _ _ H.out (by omega) (by omega) (by omega)).mono ?_
  rintro e w1 ⟨z, rfl, z0, z8, h1, k1⟩
  have H1 := Lib.hid h1
  have K1 := Lib.hid k1
  clear h1 k1 H
  go_wp2_with fail
  refine (d_l92SetL _ _ _ _ _ _ _ _ _ H1.out (by omega) (by omega) (by omega)).mono ?_
  rintro e w2 ⟨v2, d2, q2, rfl, ho2, hd2, hq2, h2, k2⟩
  have H2 := Lib.hid h2
  have s1 := K1.out.size
  have K2 := Lib.hid (K1.out.trans k2)
  have O2 := Lib.hid (ho2.widen s1 (Nat.le_refl _))
  clear h2 k2 ho2 H1 K1
  have iz : IntKind.i64.wrap (z + 2) = z + 2 := IntWalk.i64_in _ (by omega)
  go_wp2_with fail
  refine (d_pick _ _ _ _ _ _ _ _ _ H2.out (by omega) (by omega) (by omega)).mono ?_
  rintro e w3 ⟨y, rfl, y0, y30, h3, k3⟩
  have H3 := Lib.hid h3
  have s3 := k3.size
  have O3 := Lib.hid ((keepB O2.out k3 HG.out (Nat.le_refl _)).widen (Nat.le_refl _) s3)
  have K3 := Lib.hid (K2.out.trans k3)
  have iy : IntKind.i64.wrap (y - 1) = y - 1 := IntWalk.i64_in _ (by omega)
  clear h3 k3 H2 K2 O2
  go_wp2
  go_ret2
  exact ⟨_, _, _, _, rfl, O3.out, ⟨by omega, by omega⟩, by omega, by omega, H3.out, K3.out⟩

set_option maxHeartbeats 2000000 in
theorem d_l92PairTake (g hi p : Nat) (A : Option Addr) (n c : Nat) (bs : List Int) (w : World) (h : Rdr w g hi p A n c bs) (hp : p < 800000) :
    Calls Try.prog 75 #[.pointer (some ⟨g, 0, none⟩)] w fun e w' => ∃ v d a b i q, e = .returned (.tuple #[v, .int .i64 a, .int .i64 b, .int .i64 i]) ∧ OwBoolS w' w.heap.size w'.heap.size v d ∧ d.length ≤ 100 ∧ q ≤ p + 700 ∧ Rdr w' g hi q A n c bs ∧ Kept g (g + 1) w w' := by
  have HG := Lib.hid h.lt
  have H := Lib.hid h
  clear h
  go_enter Try.func75, Try.ntmps75
  go_wp2_with fail
  refine (d_l92PairAsk _ _ _ _ _ _ _ _ H.out (by omega)).mono ?_
  rintro e w1 ⟨v, d, i, q1, rfl, ho, hi1, hd, hq1, h1, k1⟩
  have H1 := Lib.hid h1
  have K1 := Lib.hid k1
  have O1 := Lib.hid ho
  clear h1 k1 H ho
  go_wp2_with fail
  refine (d_l91Num _ _ _ _ _ _ _ _ H1.out (by omega)).mono ?_
  rintro e w2 ⟨a, q2, rfl, _, hq2, h2, k2⟩
  have H2 := Lib.hid h2
  have s2 := k2.size
  have O2 := Lib.hid ((keepB O1.out k2 HG.out (Nat.le_refl _)).widen (Nat.le_refl _) s2)
  have K2 := Lib.hid (K1.out.trans k2)
  clear h2 k2 H1 K1 O1
  go_wp2_with fail
  refine (d_l91Num _ _ _ _ _ _ _ _ H2.out (by omega)).mono ?_
  rintro e w3 ⟨b, q3, rfl, _, hq3, h3, k3⟩
  have H3 := Lib.hid h3
  have s3 := k3.size
  have O3 := Lib.hid ((keepB O2.out k3 HG.out (Nat.le_refl _)).widen (Nat.le_refl _) s3)
  have K3 := Lib.hid (K2.out.trans k3)
  clear h3 k3 H2 K2 O2
  go_wp2
  refine bodyPost_ret (results_four rfl _ _ _) rfl ?_
  exact ⟨_, _, _, _, _, _, rfl, O3.out, hd, by omega, H3.out, K3.out⟩

set_option maxHeartbeats 2000000 in
theorem d_l92PairAnswer (g hi p : Nat) (A : Option Addr) (n c : Nat) (bs : List Int) (w : World) (h : Rdr w g hi p A n c bs) (hp : p < 700000) :
    Calls Try.prog 74 #[.pointer (some ⟨g, 0, none⟩)] w fun e w' => ∃ v d v' d' mid q, e = .returned (.tuple #[v, v']) ∧ w.heap.size ≤ mid ∧ mid ≤ w'.heap.size ∧ OwIntS w' w.heap.size mid v d ∧ OwBoolS w' mid w'.heap.size v' d' ∧ d.length ≤ 17 ∧ d'.length ≤ 18 ∧ q ≤ p + 2000 ∧ Rdr w' g hi q A n c bs ∧ Kept g (g + 1) w w' := by
  have HG := Lib.hid h.lt
  have H := Lib.hid h
  clear h
  go_enter Try.func74, Try.ntmps74
  go_wp2_with fail
  refine (d_l92Table _ _ _ _ _ _ _ _ H.out (by omega)).mono ?_
  rintro e w1 ⟨v, d, q1, rfl, ho, hd, hq1, h1, k1⟩
  have H1 := Lib.hid h1
  have s1 := k1.size
  have K1 := Lib.hid k1
  have O1 := Lib.hid ho
  obtain ⟨_, Al, nl, cl, rfl, hol⟩ := ho
  have hln := hol.len
  clear h1 k1 H hol
  go_wp2_with fail
  refine (d_pick _ _ _ _ _ _ _ _ _ H1.out (by omega) (by omega) (by omega)).mono ?_
  rintro e w2 ⟨y, rfl, y0, y30, h2, k2⟩
  have H2 := Lib.hid h2
  have s2 := k2.size
  have O2 := Lib.hid ((keepI O1.out k2 HG.out (Nat.le_refl _)).widen (Nat.le_refl _) s2)
  have K2 := Lib.hid (K1.out.trans k2)
  have HG2 := Lib.hid (Nat.lt_of_lt_of_le HG.out (Nat.le_trans s1 s2))
  clear h2 k2 H1 K1 O1
  by_cases hy : y = 0
  · have hb : (y == 0) = true := by simp [hy]
    have iw : IntKind.i64.wrap ((nl : Int) + 1) = (nl : Int) + 1 := IntWalk.i64_in _ (by omega)
    clear hy
    go_wp2_with fail
    refine (d_l92SetL _ _ _ _ _ _ _ _ _ H2.out (by omega) (by omega) (by omega)).mono ?_
    rintro e w3 ⟨v3, d3, q3, rfl, ho3, hd3, hq3, h3, k3⟩
    have H3 := Lib.hid h3
    have s3 := k3.size
    have O3 := Lib.hid (keepI O2.out k3 HG.out (Nat.le_refl _))
    have P3 := Lib.hid ho3
    have K3 := Lib.hid (K2.out.trans k3)
    clear h3 k3 ho3
    go_wp2
    go_ret2
    exact ⟨_, _, _, _, w2.heap.size, _, rfl, by omega, s3, O3.out, P3.out, by omega, by omega, by omega, H3.out, K3.out⟩
  · have hb : (y == 0) = false := by rw [beq_eq_false_iff_ne]; exact hy
    clear hy
    go_wp2_with fail
    refine (d_l92SetL _ _ _ _ _ _ _ _ _ H2.out (by omega) (by omega) (by omega)).mono ?_
    rintro e w3 ⟨v3, d3, q3, rfl, ho3, hd3, hq3, h3, k3⟩
    have H3 := Lib.hid h3
    have s3 := k3.size
    have O3 := Lib.hid (keepI O2.out k3 HG.out (Nat.le_refl _))
    have P3 := Lib.hid ho3
    have K3 := Lib.hid (K2.out.trans k3)
    clear h3 k3 ho3
    go_wp2
    go_ret2
    exact ⟨_, _, _, _, w2.heap.size, _, rfl, by omega, s3, O3.out, P3.out, by omega, by omega, by omega, H3.out, K3.out⟩

set_option maxHeartbeats 1000000 in
theorem d_DrawPairAsk (A : Option Addr) (n c : Nat) (bs : List Int) (w : World) (h : Rd w w.heap.size 1 A n (cU bs)) (hb : Byt bs) (hn : n ≤ 1048576) (hc : n ≤ c) :
    Calls Try.prog 44 #[.slice A n c] w fun e w' => ∃ v d i, e = .returned (.tuple #[v, .int .i64 i]) ∧ (-1 ≤ i ∧ i ≤ 1000) ∧ OwBoolS w' w.heap.size w'.heap.size v d ∧ Below w.heap.size w w' := by
  have H := Lib.hid h
  clear h
  go_enter Try.func44, Try.ntmps44
  go_wp2_with fail
  refine (d_l6Open _ _ _ _ _ H.out hb hn hc).mono ?_
  rintro e w1 ⟨rfl, ⟨A', n', c', bs', h1⟩, hb1⟩
  have H1 := Lib.hid h1
  have B1 := Lib.hid hb1
  clear h1 hb1
  go_wp2_with fail
  refine (d_l92PairAsk _ _ _ _ _ _ _ _ H1.out (by omega)).mono ?_
  rintro e w2 ⟨v, d, i, q, rfl, ho, hi, hd, hq, h2, k2⟩
  have B2 : Hid (Below w.heap.size w w2) := Lib.hid (B1.out.trans (k2.to_below B1.out.size))
  have HO := Lib.hid (ho.widen B1.out.size (Nat.le_refl _))
  clear ho
  clear h2 k2
  go_wp2
  go_ret2
  exact ⟨_, _, _, rfl, hi, HO.out, B2.out⟩

set_option maxHeartbeats 1000000 in
theorem d_DrawPairTake (A : Option Addr) (n c : Nat) (bs : List Int) (w : World) (h : Rd w w.heap.size 1 A n (cU bs)) (hb : Byt bs) (hn : n ≤ 1048576) (hc : n ≤ c) :
    Calls Try.prog 47 #[.slice A n c] w fun e w' => ∃ v d a b i, e = .returned (.tuple #[v, .int .i64 a, .int .i64 b, .int .i64 i]) ∧ OwBoolS w' w.heap.size w'.heap.size v d ∧ Below w.heap.size w w' := by
  have H := Lib.hid h
  clear h
  go_enter Try.func47, Try.ntmps47
  go_wp2_with fail
  refine (d_l6Open _ _ _ _ _ H.out hb hn hc).mono ?_
  rintro e w1 ⟨rfl, ⟨A', n', c', bs', h1⟩, hb1⟩
  have H1 := Lib.hid h1
  have B1 := Lib.hid hb1
  clear h1 hb1
  go_wp2_with fail
  refine (d_l92PairTake _ _ _ _ _ _ _ _ H1.out (by omega)).mono ?_
  rintro e w2 ⟨v, d, a, b, i, q, rfl, ho, hd, hq, h2, k2⟩
  have B2 : Hid (Below w.heap.size w w2) := Lib.hid (B1.out.trans (k2.to_below B1.out.size))
  have HO := Lib.hid (ho.widen B1.out.size (Nat.le_refl _))
  clear ho
  clear h2 k2
  go_wp2
  refine bodyPost_ret (results_four rfl _ _ _) rfl ?_
  exact ⟨_, _, _, _, _, rfl, HO.out, B2.out⟩

set_option maxHeartbeats 1000000 in
theorem d_DrawPairAnswer (A : Option Addr) (n c : Nat) (bs : List Int) (w : World) (h : Rd w w.heap.size 1 A n (cU bs)) (hb : Byt bs) (hn : n ≤ 1048576) (hc : n ≤ c) :
    Calls Try.prog 46 #[.slice A n c] w fun e w' => ∃ v d v' d' mid, e = .returned (.tuple #[v, v']) ∧ w.heap.size ≤ mid ∧ mid ≤ w'.heap.size ∧ OwIntS w' w.heap.size mid v d ∧ OwBoolS w' mid w'.heap.size v' d' ∧ Below w.heap.size w w' := by
  have H := Lib.hid h
  clear h
  go_enter Try.func46, Try.ntmps46
  go_wp2_with fail
  refine (d_l6Open _ _ _ _ _ H.out hb hn hc).mono ?_
  rintro e w1 ⟨rfl, ⟨A', n', c', bs', h1⟩, hb1⟩
  have H1 := Lib.hid h1
  have B1 := Lib.hid hb1
  clear h1 hb1
  go_wp2_with fail
  refine (d_l92PairAnswer _ _ _ _ _ _ _ _ H1.out (by omega)).mono ?_
  rintro e w2 ⟨v, d, v', d', mid, q, rfl, m1, m2, ho, ho', hd, hd', hq, h2, k2⟩
  have B2 : Hid (Below w.heap.size w w2) := Lib.hid (B1.out.trans (k2.to_below B1.out.size))
  have M1 := Lib.hid (Nat.le_trans B1.out.size m1)
  have HO := Lib.hid (ho.widen B1.out.size (Nat.le_refl _))
  have HO' := Lib.hid ho'
  clear ho ho'
  clear h2 k2
  go_wp2
  go_ret2
  exact ⟨_, _, _, _, mid, rfl, M1.out, m2, HO.out, HO'.out, B2.out⟩
end Go.Proofs.Ytbabkaofhhaneaa
