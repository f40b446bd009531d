/- Chapter 8 in the model: outputs. -/
import Derived.Test.YtbnobkojkfmccaaWalk8g
import Derived.Test.YtbnobkojkfmccaaWalk3b
namespace Go.Proofs.Ytbnobkojkfmccaa
open Go.RowKit
set_option maxRecDepth 100000

theorem if_max (a b : Int) : (if a < b then b else a) = max a b := by split <;> omega
theorem if_min (a b : Int) : (if b < a then b else a) = min a b := by split <;> omega
/-- a box of three cells over a call that only makes -/
theorem upd3 {w0 W w' : World} {b e : Nat} {x y z : Value} (hb : Below b w0 W) (hx : Bx W b #[x, y, z] e) (h : Below W.heap.size W w') :
    Below b w0 w' ∧ Bx w' b #[x, y, z] e ∧ w'.cell? ⟨b, 0, none⟩ = some x ∧ w'.cell? ⟨b, 1, none⟩ = some y ∧ w'.cell? ⟨b, 2, none⟩ = some z :=
  have hx2 := hx.below h hx.lt
  ⟨hb.trans (h.mono (Nat.le_of_lt hx.lt)), hx2, hx2.cell 0, hx2.cell 1, hx2.cell 2⟩
theorem Bx.grown {W w' : World} {b e : Nat} {cs : Array Value} {v : Value} (h : Bx W b cs e) (hg : W.grownBy w' v.ownBlock) (hne : v.ownBlock ≠ some b) : Bx w' b cs e := (hg.block b h.lt (fun h' => hne h'.symm)).trans h
theorem own_ne {w : World} {B e size n b : Nat} {v : Value} {xs : List Value} (h : w.ownsRow B e size v n xs) (hb : b < B) : v.ownBlock ≠ some b := fun e => by have := own_block h b e; omega

set_option maxHeartbeats 4000000 in
theorem s_l8Outs (A1 : Option Addr) (n1 c1 : Nat) (A2 : Option Addr) (n2 c2 : Nat) (A3 : Option Addr) (n3 c3 : Nat) (z : Int) (d2 vs : List Int) (w : World) (h2 : Rd w w.heap.size 1 A2 n2 (cI d2)) (h3 : Rd w w.heap.size 1 A3 n3 (cI vs)) (hn2 : n2 ≤ 16) (ho : outsK d2 n3 n2 = true) (_hn3 : n3 ≤ 16) :
    Calls Try.prog 72 #[.agg #[.int .i64 z, .slice A1 n1 c1, .slice A2 n2 c2], .slice A3 n3 c3] w fun e w' => ∃ A n c, e = .returned (.slice A n c) ∧ OwIntS w' w.heap.size w'.heap.size (.slice A n c) (outK d2 vs n2) ∧ Below w.heap.size w w' := by
  have H2 := Lib.hid h2
  have H3 := Lib.hid h3
  have HOK := Lib.hid ho
  clear h2 h3 ho
  have HX0 : Hid (Bx ((w.alloc (.cells #[.int .i64 z, .slice A1 n1 c1, .slice A2 n2 c2] 42)).alloc (.cells #[] 3)) w.heap.size #[.int .i64 z, .slice A1 n1 c1, .slice A2 n2 c2] 42) := Lib.hid ((Bx.new _ _ _).alloc _)
  have HO0 : Hid (((w.alloc (.cells #[.int .i64 z, .slice A1 n1 c1, .slice A2 n2 c2] 42)).alloc (.cells #[] 3)).ownsRow (w.heap.size + 1) 3 1 (.slice (some ⟨w.heap.size + 1, 0, none⟩) 0 0) 0 (cI [])) := Lib.hid (by
    have := own_empty (w.alloc (.cells #[.int .i64 z, .slice A1 n1 c1, .slice A2 n2 c2] 42)) 3 1
    rw [World.size_alloc] at this; exact this)
  have HB0 : Hid (Below w.heap.size w ((w.alloc (.cells #[.int .i64 z, .slice A1 n1 c1, .slice A2 n2 c2] 42)).alloc (.cells #[] 3))) := Lib.hid (((Below.refl _ _).alloc (Nat.le_refl _) _).alloc (by simp) _)
  go_enter Try.func72, Try.ntmps72
  go_wp2
  go_loopw [5, 6] (fun o i wr => ∃ k : Nat, k ≤ n2 ∧ i = .int .i64 k ∧ Hid (wr.ownsRow (w.heap.size + 1) 3 1 o k (cI (outK d2 vs k))) ∧ Hid (Bx wr w.heap.size #[.int .i64 z, .slice A1 n1 c1, .slice A2 n2 c2] 42) ∧ Hid (Below w.heap.size w wr)) (fun _ i _ => n2 - (intOf i).toNat)
  case atStart => exact ⟨0, Nat.zero_le _, rfl, HO0, HX0, HB0⟩
  case round =>
    clear HO0 HX0 HB0
    obtain ⟨k, hk, rfl, HO, HX, HB⟩ := hrel
    have b2 : wr.cell? ⟨w.heap.size, 2, none⟩ = some (.slice A2 n2 c2) := HX.out.cell 2
    by_cases hlt : k < n2
    · obtain ⟨a, x, hA, hab, hx0, HP⟩ := H2.out.intAt hlt
      have hx := (HB.out.cell (p := a.add k) (by rw [add_block]; exact hab)).trans hx0
      obtain ⟨x0, x1⟩ := outsK_at HOK.out hlt
      rw [← HP.out] at x0 x1
      obtain ⟨m, rfl⟩ : ∃ m : Nat, x = m := ⟨x.toNat, by omega⟩
      obtain ⟨a3, v, hA3, hab3, hv3, HV⟩ := H3.out.intAt (k := m) (by omega)
      have hv := (HB.out.cell (p := a3.add m) (by rw [add_block]; exact hab3)).trans hv3
      have i0 : (0 : Int) ≤ (k : Int) := by omega
      have i1 : (k : Int) < (n2 : Int) := by omega
      have i2 : (m : Int) < (n3 : Int) := by omega
      have HE : Hid (outK d2 vs (k + 1) = outK d2 vs k ++ [v]) := Lib.hid (by rw [outK, ← HP.out, HV.out]; rfl)
      have hz := HX.out.lt
      have HOa := Lib.hid (HO.out.alloc (.cells #[.int .i64 v] 3))
      have HXa := Lib.hid (HX.out.alloc (.cells #[.int .i64 v] 3))
      have HBa := Lib.hid (HB.out.alloc HB.out.size (.cells #[.int .i64 v] 3))
      have HRa : Hid (Rd (wr.alloc (.cells #[.int .i64 v] 3)) (wr.heap.size + 1) 1 (some ⟨wr.heap.size, 0, none⟩) 1 (cI [v])) := Lib.hid (by
        have := (Ow.new wr #[.int .i64 v] 3 1 1 rfl).rd; exact this)
      subst hA; subst hA3
      clear hx0 hv3 HO HX HB
      go_wp2_with (at_builtin; refine wpList_append_rd rfl (.tmp 15) (.tmp 24) _ rfl (w.heap.size + 1) 3 _ 1 8 Try.underlying27 info_int rfl (by decide) u5 k (cI (outK d2 vs k)) rfl HOa.out _ _ 1 1 (cI [v]) rfl HRa.out (cI_one _) (by unfold maxLen; omega) (by omega) (by simp; omega) ?_; intro v1 w1 hown hg hat; have HOWN := Lib.hid hown; have HG := Lib.hid hg; clear hown hg hat)
      have HO2 : Hid (w1.ownsRow (w.heap.size + 1) 3 1 v1 (k + 1) (cI (outK d2 vs (k + 1)))) := Lib.hid (by
        rw [HE.out, cI_append]; exact HOWN.out)
      have HX2 := Lib.hid (HXa.out.grown HG.out (own_ne HOa.out (Nat.lt_succ_self _)))
      have HB2 : Hid (Below w.heap.size w w1) := Lib.hid (below_append HBa.out HG.out (fun g hg => by have := own_block HOa.out g hg; omega) HBa.out.size)
      clear HOWN HG HOa HRa HXa HBa
      go_roundw
      case rel => exact ⟨k + 1, by omega, by go_num, HO2, HX2, HB2⟩
      case measure => simp [intOf] <;> omega
    · have hkn : k = n2 := by omega
      have HOF : Hid (OwIntS wr w.heap.size wr.heap.size u5 (outK d2 vs n2)) := Lib.hid (by
        have h1 := HO.out
        rw [hkn] at h1
        exact (own_done rfl h1 (by omega)).widen (Nat.le_succ _) (Nat.le_refl _))
      clear HO hkn
      obtain ⟨A, n, c, rfl, _, _⟩ := HOF.out.open
      go_wp2
      go_ret
      exact ⟨_, _, _, rfl, HOF.out, HB.out⟩

end Go.Proofs.Ytbnobkojkfmccaa
