/- Chapter 4: sharesPlusTimes, and SharesAdd over it. -/
import Derived.Test.YtbmjepmlalfpgaaWalk5q
import Derived.Test.YtbmjepmlalfpgaaWalk5m
namespace Go.Proofs.Ytbmjepmlalfpgaa
open Go.RowKit Go.Shelf
set_option maxRecDepth 100000

set_option maxHeartbeats 1000000 in
theorem i_plus1 (b1 b2 b3 : Nat) (A A' : Option Addr) (n c c' k : Nat) (ps qs : List (Int × Int)) (by_ : Int) (w : World) (hb1 : w.cell? ⟨b1, 0, none⟩ = some (.slice A n c)) (hb2 : w.cell? ⟨b2, 0, none⟩ = some (.slice A' n c'))
    (hb3 : w.cell? ⟨b3, 0, none⟩ = some (.int .i64 by_)) (r0 : 0 ≤ by_) (r1 : by_ ≤ 112) (hl3 : b3 < w.heap.size)
    (hl1 : b1 < w.heap.size) (hl2 : b2 < w.heap.size) (H : Rd w w.heap.size 2 A n (cP ps)) (H' : Rd w w.heap.size 2 A' n (cP qs)) (hp : numK ps n = true) (hp' : numK qs n = true) (hk : k < n) :
    Calls Try.prog 100 #[.int .i64 k, .pointer (some ⟨b1, 0, none⟩), .pointer (some ⟨b2, 0, none⟩), .pointer (some ⟨b3, 0, none⟩)] w fun e w' => e = .returned (.agg #[.int .i64 (px ps k), .int .i64 ((py ps k + py qs k * by_ % 113) % 113)]) ∧ Below w.heap.size w w' := by
  obtain ⟨a, x, y, rfl, hab, hx0, hy0, HP⟩ := H.ptAt hk
  obtain ⟨a', x', y', rfl, hab', _, hy0', HP'⟩ := H'.ptAt hk
  have HXY := pxy HP.out
  have HXY' := pxy HP'.out
  have hat := numK_at hp hk
  have hat' := numK_at hp' hk
  rw [HXY.1, HXY.2] at hat
  rw [HXY'.1, HXY'.2] at hat'
  rw [HXY.1, HXY.2, HXY'.2]
  obtain ⟨y0, y1⟩ := hat.2
  obtain ⟨z0, z1⟩ := hat'.2
  have HB := (Below.refl w.heap.size w).alloc (Nat.le_refl _) (.cells #[.int .i64 0, .int .i64 0] 96)
  have hc1 := (HB.cell (p := ⟨b1, 0, none⟩) hl1).trans hb1
  have hc2 := (HB.cell (p := ⟨b2, 0, none⟩) hl2).trans hb2
  have hc3 := (HB.cell (p := ⟨b3, 0, none⟩) hl3).trans hb3
  have hx := (HB.cell (p := a.add (k * 2)) (by rw [add_block]; exact hab)).trans hx0
  have hy := (HB.cell (p := ⟨(a.add (k * 2)).block, (a.add (k * 2)).off + 1, none⟩) (by rw [add_block]; exact hab)).trans hy0
  have hy' := (HB.cell (p := ⟨(a'.add (k * 2)).block, (a'.add (k * 2)).off + 1, none⟩) (by rw [add_block]; exact hab')).trans hy0'
  have HBB := Lib.hid HB
  have hn0 : (w.alloc (.cells #[.int .i64 0, .int .i64 0] 96)).cell? ⟨w.heap.size, 0, none⟩ = some (.int .i64 0) := World.cell?_alloc_new w _ _ 0
  have hn1 : (w.alloc (.cells #[.int .i64 0, .int .i64 0] 96)).cell? ⟨w.heap.size, 1, none⟩ = some (.int .i64 0) := World.cell?_alloc_new w _ _ 1
  have hf := fun j => (Ow.new w #[.int .i64 0, .int .i64 0] 96 2 1 rfl).free (by omega) j
  clear HP HXY hat hb1 hb2 hb3 hx0 hy0 H hp HB HP' HXY' hat' hy0' H' hp'
  have i0 : (0 : Int) ≤ (k : Int) := by omega
  have i1 : (k : Int) < (n : Int) := by omega
  go_enter Try.func100, Try.ntmps100
  go_wp2
  have hf0 := hf 0
  have hf1 := hf 1
  clear hf
  obtain ⟨W1, hW1⟩ : ∃ W1, w.alloc (.cells #[.int .i64 0, .int .i64 0] 96) = W1 := ⟨_, rfl⟩
  rw [hW1] at hc1 hc2 hc3 hx hy hy' hn0 hn1 hf0 hf1 HBB ⊢
  clear hW1
  have s0 : 0 ≤ y' * by_ % 113 := by omega
  have s1 : y' * by_ % 113 ≤ 112 := by omega
  go_still_tail 18, (by kernel_rfl)
  still_call (same_ (i_times _ _ _ z0 z1 r0 r1))
  still_call (same_ (i_plus _ _ _ y0 y1 s0 s1))
  repeat still_step
  refine wpStill_nil ?_
  change wpList _ _ _ _ _ W1.drew
  go_wp2
  refine bodyPost_ret (v := .agg #[.int .i64 x, .int .i64 ((y + y' * by_ % 113) % 113)]) (by simp [results, Try.results100, go_sem, hn0, hn1]) rfl ⟨rfl, ?_⟩
  exact below_drew ((HBB.out.setCell (p := ⟨w.heap.size, 0, none⟩) (Nat.le_refl _) _).setCell (p := ⟨w.heap.size, 1, none⟩) (Nat.le_refl _) _)


set_option maxHeartbeats 2000000 in
theorem i_sharesPlusTimes (A A' : Option Addr) (n c c' : Nat) (d d' : List (Int × Int)) (by_ : Int) (w : World) (h : Rd w w.heap.size 2 A n (cP d)) (h' : Rd w w.heap.size 2 A' n (cP d')) (hn : n ≤ 1048576) (hp : numK d n = true) (hp' : numK d' n = true) (r0 : 0 ≤ by_) (r1 : by_ ≤ 112) :
    Calls Try.prog 72 #[.slice A n c, .slice A' n c', .int .i64 by_] w fun e w' => ∃ g, e = .returned g ∧ OwPointS w' w.heap.size w'.heap.size g (uptoF (fun k => (px d k, (py d k + py d' k * by_ % 113) % 113)) n) ∧ Below w.heap.size w w' := by
  have H := Lib.hid h
  have H' := Lib.hid h'
  have HP := Lib.hid hp
  have HP' := Lib.hid hp'
  clear h h' hp hp'
  obtain ⟨w0, HW0⟩ : ∃ w0, Hid (((w.alloc (.cells #[.slice A n c] 37)).alloc (.cells #[.slice A' n c'] 37)).alloc (.cells #[.int .i64 by_] 100) = w0) := ⟨_, Lib.hid rfl⟩
  have HB0 : Hid (Below w.heap.size w w0) := Lib.hid (by rw [← HW0.out]; exact (((Below.refl _ _).alloc (Nat.le_refl _) _).alloc (by simp) _).alloc (by simp; omega) _)
  have hz0 : Hid (w0.heap.size = w.heap.size + 3) := Lib.hid (by rw [← HW0.out]; simp)
  have hc1 : Hid (w0.cell? ⟨w.heap.size, 0, none⟩ = some (.slice A n c)) := Lib.hid (by rw [← HW0.out]; exact (((Boxed.new w _ _).alloc _).alloc _).cell)
  have hc2 : Hid (w0.cell? ⟨w.heap.size + 1, 0, none⟩ = some (.slice A' n c')) := Lib.hid (by
    have := (Boxed.new (w.alloc (.cells #[.slice A n c] 37)) 37 (.slice A' n c')).alloc (.cells #[.int .i64 by_] 100)
    rw [World.size_alloc, HW0.out] at this; exact this.cell)
  have hc3 : Hid (w0.cell? ⟨w.heap.size + 1 + 1, 0, none⟩ = some (.int .i64 by_)) := Lib.hid (by
    have := Boxed.new ((w.alloc (.cells #[.slice A n c] 37)).alloc (.cells #[.slice A' n c'] 37)) 100 (.int .i64 by_)
    rw [World.size_alloc, World.size_alloc, HW0.out] at this; exact this.cell)
  go_enter Try.func72, Try.ntmps72
  go_wp2_with fail
  rw [HW0.out]
  refine (i_listed_plus w.heap.size (w.heap.size + 1) (w.heap.size + 1 + 1) n hn (fun k => (px d k, (py d k + py d' k * by_ % 113) % 113)) _ (fun W k hW hk => ?_)).mono ?_
  · have hs := hz0.out
    have hs2 := hW.size
    exact i_plus1 w.heap.size (w.heap.size + 1) (w.heap.size + 1 + 1) A A' n c c' k d d' by_ W ((hW.cell (p := ⟨w.heap.size, 0, none⟩) (by simp; omega)).trans hc1.out) ((hW.cell (p := ⟨w.heap.size + 1, 0, none⟩) (by simp; omega)).trans hc2.out)
      ((hW.cell (p := ⟨w.heap.size + 1 + 1, 0, none⟩) (by simp; omega)).trans hc3.out) r0 r1 (by omega) (by omega) (by omega) ((H.out.below (HB0.out.trans (hW.mono (by omega)))).more (by omega)) ((H'.out.below (HB0.out.trans (hW.mono (by omega)))).more (by omega)) HP.out HP'.out hk
  · rintro e w4 ⟨g, rfl, ho, hb4⟩
    have HO := Lib.hid (ho.widen HB0.out.size (Nat.le_refl _))
    have HB4 : Hid (Below w.heap.size w w4) := Lib.hid (HB0.out.trans (hb4.mono HB0.out.size))
    clear ho hb4
    go_wp2
    go_ret
    exact ⟨_, rfl, HO.out, HB4.out⟩

theorem upto_one (d d' : List (Int × Int)) (n : Nat) : uptoF (fun k => (px d k, (py d k + py d' k * 1 % 113) % 113)) n = uptoF (fun k => (px d k, (py d k + py d' k) % 113)) n := by
  congr 1; funext k; congr 1; omega
set_option maxHeartbeats 2000000 in
theorem X_i_SharesAdd (v v' : Value) (d d' : List (Int × Int)) (w : World) (h : RdPointS w w.heap.size v d) (h' : RdPointS w w.heap.size v' d') (hs : szPointS d ≤ 1048576) (hs' : szPointS d' ≤ 1048576) :
    Calls Try.prog 25 #[v, v'] w fun e w' => ∃ g, e = .returned (.tuple #[g, .bool (R_SharesAdd_1 d d')]) ∧ OwPointS w' w.heap.size w'.heap.size g (R_SharesAdd_0 d d') ∧ Below w.heap.size w w' := by
  obtain ⟨A, n, c, rfl, hm, r⟩ := h
  obtain ⟨A', n', c', rfl, hm', r'⟩ := h'
  have hn : n ≤ 1048576 := by have := r.plen; unfold szPointS at hs; omega
  have hn' : n' ≤ 1048576 := by have := r'.plen; unfold szPointS at hs'; omega
  have hl := Lib.hid r.plen
  have hl' := Lib.hid r'.plen
  have H := Lib.hid r
  have H' := Lib.hid r'
  clear r hs hm r' hs' hm'
  have HN : Hid (R_SharesAdd_1 d d' = (decide (n = n') && (numK d n && (numK d' n' && sameK d d' n)))) := Lib.hid (by
    unfold R_SharesAdd_1; rw [hl.out, hl'.out])
  have no : ∀ {w' : World}, R_SharesAdd_1 d d' = false → Below w.heap.size w w' → ∃ g, Ending.returned (.tuple #[.slice none 0 0, .bool false]) = .returned (.tuple #[g, .bool (R_SharesAdd_1 d d')]) ∧ OwPointS w' w.heap.size w'.heap.size g (R_SharesAdd_0 d d') ∧ Below w.heap.size w w' :=
    fun h hb => ⟨_, ret_vb h.symm, by rw [(add_no h).2]; exact OwPointS.nil_ _ _ _, hb⟩
  go_enter Try.func25, Try.ntmps25
  go_wp2_with fail
  refine (i_pointsOfNumbers _ _ _ _ _ H.out hn).mono ?_
  rintro e w1 ⟨rfl, hb1⟩
  have HB1 := Lib.hid hb1
  clear hb1
  cases hp : numK d n
  · have HF : Hid (R_SharesAdd_1 d d' = false) := Lib.hid (by rw [HN.out, hp]; simp)
    go_wp2
    go_ret2
    exact no HF.out HB1.out
  have HP := Lib.hid hp
  go_wp2_with fail
  refine (i_pointsOfNumbers _ _ _ _ _ ((H'.out.below HB1.out).more HB1.out.size) hn').mono ?_
  rintro e w2 ⟨rfl, hb2⟩
  have HB2 : Hid (Below w.heap.size w w2) := Lib.hid (HB1.out.trans (hb2.mono HB1.out.size))
  clear hb2
  cases hp' : numK d' n'
  · have HF : Hid (R_SharesAdd_1 d d' = false) := Lib.hid (by rw [HN.out, hp']; simp)
    go_wp2
    go_ret2
    exact no HF.out HB2.out
  have HP' := Lib.hid hp'
  go_wp2_with fail
  refine (i_sameX _ _ _ _ _ _ _ _ _ ((H.out.below HB2.out).more HB2.out.size) ((H'.out.below HB2.out).more HB2.out.size) hn hn' _ (Lib.hid rfl)).mono ?_
  rintro e w3 ⟨rfl, hb3⟩
  have HB3 : Hid (Below w.heap.size w w3) := Lib.hid (HB2.out.trans (hb3.mono HB2.out.size))
  clear hb3
  cases hsx : (decide (n = n') && sameK d d' n)
  · have HF : Hid (R_SharesAdd_1 d d' = false) := Lib.hid (by rw [HN.out, hp, hp', Bool.true_and, Bool.true_and]; exact hsx)
    go_wp2
    go_ret2
    exact no HF.out HB3.out
  have HF1 : Hid (R_SharesAdd_1 d d' = true) := Lib.hid (by rw [HN.out, hp, hp', Bool.true_and, Bool.true_and]; exact hsx)
  have hnn : n = n' := by rw [Bool.and_eq_true, decide_eq_true_eq] at hsx; exact hsx.1
  subst hnn
  have HF2 : Hid (R_SharesAdd_0 d d' = uptoF (fun k => (px d k, (py d k + py d' k * 1 % 113) % 113)) n) := Lib.hid (by rw [upto_one]; unfold R_SharesAdd_0; rw [if_pos HF1.out, hl.out]; rfl)
  clear hp hp' hsx HN
  go_wp2_with fail
  refine (i_sharesPlusTimes A A' n c c' d d' 1 _ ((H.out.below HB3.out).more HB3.out.size) ((H'.out.below HB3.out).more HB3.out.size) hn HP.out HP'.out (by omega) (by omega)).mono ?_
  rintro e w4 ⟨g, rfl, ho, hb4⟩
  have HO := Lib.hid (ho.widen HB3.out.size (Nat.le_refl _))
  have HB4 : Hid (Below w.heap.size w w4) := Lib.hid (HB3.out.trans (hb4.mono HB3.out.size))
  clear ho hb4
  go_wp2
  go_ret2
  exact ⟨_, ret_vb HF1.out.symm, by rw [HF2.out]; exact HO.out, HB4.out⟩
end Go.Proofs.Ytbmjepmlalfpgaa
