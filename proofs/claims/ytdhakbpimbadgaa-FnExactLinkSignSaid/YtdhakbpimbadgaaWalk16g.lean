/- Chapter 16: RingGood of the model. -/
import Derived.Test.YtdhakbpimbadgaaWalk16f
namespace Go.Proofs.Ytdhakbpimbadgaa
open Go.RowKit
set_option maxRecDepth 100000

set_option maxHeartbeats 1000000 in
theorem s_l16Message (A : Option Addr) (n c : Nat) (zs : List Int) (w : World) (h : Rd w w.heap.size 1 A n (cI zs)) (hn : n ≤ 1048576) :
    Calls Try.prog 49 #[.slice A n c] w fun e w' => e = .returned (.bool (msgB zs)) ∧ w = w' := by
  have HL := Lib.hid h.len
  have H := Lib.hid h
  clear h
  by_cases h1 : n ≤ 8
  · have i1 : (n : Int) ≤ 8 := by omega
    have HF : Hid (numsB zs = msgB zs) := Lib.hid (by unfold msgB; rw [HL.out, decide_eq_true h1]; rfl)
    go_enter Try.func49, Try.ntmps49
    go_wp2_with fail
    refine (s_l1In _ _ _ _ _ H.out hn).mono ?_
    rintro e w' ⟨rfl, rfl⟩
    go_wp2
    go_ret
    exact ⟨ret_bool HF.out, rfl⟩
  · have i1 : ¬ (n : Int) ≤ 8 := by omega
    have HF : Hid (false = msgB zs) := Lib.hid (by unfold msgB; rw [HL.out, decide_eq_false h1]; rfl)
    go_enter Try.func49, Try.ntmps49
    go_wp2
    go_ret
    exact ⟨ret_bool HF.out, rfl⟩

set_option maxHeartbeats 4000000 in
theorem s_l16Chal (A1 : Option Addr) (n1 c1 : Nat) (msg : List Int) (A : Option Addr) (n c : Nat) (ks : List Int) (A2 : Option Addr) (n2 c2 : Nat) (l : List Pf) (w : World) (h : Rd w w.heap.size 1 A n (cI ks)) (h1 : Rd w w.heap.size 1 A1 n1 (cI msg)) (h2 : Rd w w.heap.size 3 A2 n2 (cProof l)) (hn : n ≤ 1048576) (hn1 : n1 ≤ 1048576) (hn2 : n2 ≤ 1048576) :
    Calls Try.prog 50 #[.slice A1 n1 c1, .slice A n c, .slice A2 n2 c2] w fun e w' => ∃ v : Int, e = .returned (.int .i64 v) ∧ Hid (mixB (msg ++ ks ++ comsP l) = true → v = rchal ks msg l) ∧ Below w.heap.size w w' := by
  have H := Lib.hid h
  have H1 := Lib.hid h1
  have H2 := Lib.hid h2
  have HL2 := Lib.hid h2.Prooflen
  clear h h1 h2
  obtain ⟨W0, hW0⟩ : ∃ W, Hid (w.alloc (.cells #[] 3) = W) := ⟨_, Lib.hid rfl⟩
  have HB0 : Hid (Below w.heap.size w W0) := Lib.hid (by rw [← hW0.out]; exact (Below.refl _ _).alloc (Nat.le_refl _) _)
  have HO0 : Hid (W0.ownsRow w.heap.size 3 1 (.slice (some ⟨w.heap.size, 0, none⟩) 0 0) 0 (cI [])) := Lib.hid (by rw [← hW0.out]; exact own_empty w 3 1)
  have z0 := HB0.out.size
  go_enter Try.func50, Try.ntmps50
  go_wp2_with (first
    | (at_builtin
       rw [hW0.out]
       refine wpList_append_rd2 rfl (.tmp 9) (.tmp 10) 22 22 3 rfl w.heap.size 3 _ 1 8 Try.underlying22 Try.underlying22 info_int rfl (by decide) _ 0 (cI []) rfl HO0.out w.heap.size _ n1 _ (cI msg) rfl (H1.out.below HB0.out) (cI_one _) (by unfold maxLen; omega) (by omega) z0 ?_
       intro v5 w5 hown hgr hat
       have HO5 : Hid (w5.ownsRow w.heap.size 3 1 v5 n1 (cI msg)) := Lib.hid (by rw [← cI_app, List.nil_append, Nat.zero_add] at hown; exact hown)
       have HB5 : Hid (Below w.heap.size w w5) := Lib.hid (below_grown HB0.out hgr (fun g e => own_ge HO0.out e) z0)
       have z5 := HB5.out.size
       clear hown hgr hat HO0 HB0 hW0)
    | (at_builtin
       refine wpList_append_rd2 rfl (.tmp 11) (.tmp 12) 22 22 3 rfl w.heap.size 3 _ 1 8 Try.underlying22 Try.underlying22 info_int rfl (by decide) v5 n1 (cI msg) rfl HO5.out w.heap.size _ n _ (cI ks) rfl (H.out.below HB5.out) (cI_one _) (by unfold maxLen; omega) (by omega) z5 ?_
       intro v6 w6 hown hgr hat
       have HO6 : Hid (w6.ownsRow w.heap.size 3 1 v6 (n1 + n + 0) (cI (msg ++ ks ++ comsP (l.take 0)))) := Lib.hid (by rw [← cI_app] at hown; simpa [comsP] using hown)
       have HB6 : Hid (Below w.heap.size w w6) := Lib.hid (below_grown HB5.out hgr (fun g e => own_ge HO5.out e) z5)
       clear hown hgr hat HO5 HB5 z5))
  clear z0
  go_loopw [7, 8] (fun t j wr => ∃ (k : Nat) (tv : Value), k ≤ n2 ∧ tv = t ∧ j = .int .i64 k ∧ Hid (wr.ownsRow w.heap.size 3 1 tv (n1 + n + k) (cI (msg ++ ks ++ comsP (l.take k)))) ∧ Hid (Below w.heap.size w wr)) (fun _ j _ => n2 - (intOf j).toNat)
  case atStart => exact ⟨0, _, Nat.zero_le _, rfl, rfl, HO6, HB6⟩
  case round =>
    clear HO6 HB6
    obtain ⟨k, tv, hkn, rfl, rfl, HO, HB⟩ := hrel
    by_cases hlt : k < n2
    · obtain ⟨a, x, y, z, rfl, hab, hcx0, hcy0, hcz0, HP⟩ := H2.out.ProofAt hlt
      have hba : (a.add (k * 3)).block < w.heap.size := by rw [add_block]; exact hab
      have hcx := (HB.out.cell (p := a.add (k * 3)) hba).trans hcx0
      clear hcx0 hcy0 hcz0
      have HT := Lib.hid (comsP_take l k (by have := HL2.out; omega) HP.out)
      clear HP
      obtain ⟨W1, hW1⟩ : ∃ W, Hid (wr.alloc (.cells #[.int .i64 x] 3) = W) := ⟨_, Lib.hid rfl⟩
      have hbs : Below wr.heap.size wr W1 := by rw [← hW1.out]; exact (Below.refl _ _).alloc (Nat.le_refl _) _
      have HB1 : Hid (Below w.heap.size w W1) := Lib.hid (HB.out.trans (hbs.mono HB.out.size))
      have HO1 := Lib.hid (ownsRow_below HO.out hbs)
      have HR1 : Hid (Rd W1 W1.heap.size 1 (some ⟨wr.heap.size, 0, none⟩) 1 (cI [x])) := Lib.hid (by rw [← hW1.out]; exact (Bx.new wr #[.int .i64 x] 3).rdI (zs := [x]) rfl)
      have z1 := HB1.out.size
      clear hbs HB HO
      go_wp2_with (at_builtin
                   rw [hW1.out]
                   refine wpList_append_rd2 rfl (.tmp 20) (.tmp 26) 22 22 3 rfl w.heap.size 3 _ 1 8 Try.underlying22 Try.underlying22 info_int rfl (by decide) tv (n1 + n + k) _ rfl HO1.out W1.heap.size _ 1 _ (cI [x]) rfl HR1.out (cI_one _) (by unfold maxLen; omega) (by omega) z1 ?_
                   intro v5 w5 hown hgr hat
                   have HO5 : Hid (w5.ownsRow w.heap.size 3 1 v5 (n1 + n + (k + 1)) (cI (msg ++ ks ++ comsP (l.take (k + 1))))) := Lib.hid (by rw [HT.out, ← List.append_assoc, cI_app (msg ++ ks ++ comsP (l.take k)), show n1 + n + (k + 1) = n1 + n + k + 1 by omega]; exact hown)
                   have HB5 : Hid (Below w.heap.size w w5) := Lib.hid (below_grown HB1.out hgr (fun g e => own_ge HO1.out e) z1)
                   clear hown hgr hat HO1 HB1 HR1 z1 hW1 HT hcx)
      go_roundw
      case rel => exact ⟨k + 1, v5, by omega, rfl, by go_num, HO5, HB5⟩
      case measure => simp [intOf] <;> omega
    · have hkn2 : k = n2 := by omega
      have HO2 : Hid (wr.ownsRow w.heap.size 3 1 tv (n1 + n + n2) (cI (msg ++ ks ++ comsP l))) := Lib.hid (by
        have := HO.out; rw [hkn2, List.take_of_length_le (by have := HL2.out; omega)] at this; exact this)
      clear HO hkn2
      obtain ⟨At, ct, htv, hot⟩ := Ow.of_own HO2.out
      subst htv
      have HR := Lib.hid hot.rd
      clear hot HO2
      go_wp2_with fail
      cases hm : mixB (msg ++ ks ++ comsP l)
      · have HV : ∀ v : Int, Hid (mixB (msg ++ ks ++ comsP l) = true → v = rchal ks msg l) := fun v => Lib.hid (by rw [hm]; intro h; cases h)
        clear hm
        refine (s_l16Mix_any _ _ _ _ _ wr HR.out (by omega)).mono ?_
        rintro e w' ⟨⟨v, rfl⟩, rfl⟩
        go_wp2
        go_ret
        exact ⟨v, rfl, HV v, HB.out⟩
      · have hr := s_l16Mix _ _ ct _ _ wr HR.out (by omega) hm
        rw [show mixL (msg ++ ks ++ comsP l) % 113 = rchal ks msg l from rfl] at hr
        clear hm
        refine hr.mono ?_
        clear hr
        rintro e w' ⟨rfl, rfl⟩
        go_wp2
        go_ret
        exact ⟨_, rfl, Lib.hid fun _ => rfl, HB.out⟩

end Go.Proofs.Ytdhakbpimbadgaa
