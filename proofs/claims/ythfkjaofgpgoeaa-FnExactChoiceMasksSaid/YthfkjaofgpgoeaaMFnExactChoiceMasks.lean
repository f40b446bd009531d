import Derived.Test.YthfkjaofgpgoeaaWalk11b
import Derived.Test.YthfkjaofgpgoeaaWalk11c
import Derived.Deep.RegionHeld3
import Derived.BigQuiet
import Derived.Laws.EntriesVeiled
import Derived.Deep.RegionLaw
import Derived.Deep.RegionWith
import Derived.Test.YthfkjaofgpgoeaaFaceP
import Derived.Test.YthfkjaofgpgoeaaSS2
import Derived.Test.YthfkjaofgpgoeaaWalk5d
import Derived.StillTailTactics
import Derived.Test.YthfkjaofgpgoeaaLaw
import Derived.Lib.SmallJoins
import Derived.Test.YthfkjaofgpgoeaaCircuit
/- Chapter 11: the program's masked, over any two closures; ChoiceAnswer's closure. -/
namespace Go.Proofs.Ythfkjaofgpgoeaa
open Go.RowKit
set_option maxRecDepth 100000

theorem map_step (op : Int → Int → Int) (xs : List Int) (ms : Nat → Int) {k n : Nat} (hk : k < n) : (mapK op xs ms k ++ List.replicate (n - k) 0).set k (mapE op xs ms k) = mapK op xs ms (k + 1) ++ List.replicate (n - (k + 1)) 0 := by
  have hl := mapK_length op xs ms k
  rw [List.set_append_right _ _ (by omega), hl, Nat.sub_self, show n - k = (n - (k + 1)) + 1 by omega, List.replicate_succ, List.set_cons_zero, mapK, List.append_assoc, List.singleton_append]

set_option maxHeartbeats 4000000 in
theorem i_masked (F G : FuncId) (caps : Array Value) (op : Int → Int → Int) (ms : Nat → Int) (A : Option Addr) (n c : Nat) (xs : List Int) (w : World) (h : Rd w w.heap.size 1 A n (cI xs)) (hN : Nums xs) (hm : ∀ k, 0 ≤ ms k ∧ ms k ≤ 112) (hn : n ≤ 8)
    (eg : ∀ args W, (callFunc F args).run Try.prog W = .ok (.enter F args) W) (eg2 : ∀ args W, (callFunc G args).run Try.prog W = .ok (.enter G args) W)
    (hS : ∀ W (k : Nat), Below w.heap.size w W → k < n → Calls Try.prog F (#[.int .i64 k] ++ caps) W fun e W' => ∃ b, e = .returned (.func (.func G) #[] #[.pointer (some ⟨b, 0, none⟩)]) ∧ W'.cell? ⟨b, 0, none⟩ = some (.int .i64 (ms k)) ∧ Below W.heap.size W W')
    (hG : ∀ (a m : Int) (b : Nat) (W : World), W.cell? ⟨b, 0, none⟩ = some (.int .i64 m) → 0 ≤ a → a ≤ 112 → 0 ≤ m → m ≤ 112 → Calls Try.prog G #[.int .i64 a, .pointer (some ⟨b, 0, none⟩)] W fun e W' => e = .returned (.int .i64 (op a m % 113)) ∧ W = W') :
    Calls Try.prog 107 #[.slice A n c, .func (.func F) #[] caps] w fun e w' => ∃ A' c', e = .returned (.slice A' n c') ∧ OwIntS w' w.heap.size w'.heap.size (.slice A' n c') (mapK op xs ms n) ∧ Below w.heap.size w w' := by
  have HX := Lib.hid h
  have HN := Lib.hid hN
  have HM := Lib.hid hm
  have HS1 := Lib.hid hS
  have HG1 := Lib.hid hG
  clear h hN hm hS hG
  have hmk := fun W => run_make1 (P := Try.prog) Try.underlying22 info_int rfl n (by omega) (by omega) W
  have HO0 : Hid (Ow (w.alloc (.cells (Array.replicate n (.int .i64 0)) 3)) w.heap.size (w.heap.size + 1) 3 1 (some ⟨w.heap.size, 0, none⟩) n n (cI (mapK op xs ms 0 ++ List.replicate (n - 0) 0))) := Lib.hid (by
    have := Ow.zeros w (.int .i64 0) 3 n
    rw [cI_zeros] at this; exact this)
  have HB0 : Hid (Below w.heap.size w (w.alloc (.cells (Array.replicate n (.int .i64 0)) 3))) := Lib.hid ((Below.refl _ _).alloc (Nat.le_refl _) _)
  have HZ0 : Hid (w.heap.size < (w.alloc (.cells (Array.replicate n (.int .i64 0)) 3)).heap.size) := Lib.hid (by simp)
  go_enter Try.func107, Try.ntmps107
  go_wp2
  go_loopw [13] (fun i wr => ∃ k : Nat, k ≤ n ∧ i = .int .i64 k ∧ Hid (Ow wr w.heap.size (w.heap.size + 1) 3 1 (some ⟨w.heap.size, 0, none⟩) n n (cI (mapK op xs ms k ++ List.replicate (n - k) 0))) ∧ Hid (Below w.heap.size w wr) ∧ Hid (w.heap.size < wr.heap.size)) (fun i _ => n - (intOf i).toNat)
  case atStart => exact ⟨0, Nat.zero_le _, rfl, HO0, HB0, HZ0⟩
  case round =>
    clear HO0 HB0 HZ0
    obtain ⟨k, hk, rfl, HO, HB, HZ⟩ := hrel
    by_cases hlt : k < n
    · obtain ⟨a, x, rfl, hab, hx0, HP⟩ := HX.out.intAt hlt
      have hx := (HB.out.cell (p := a.add k) (by rw [add_block]; exact hab)).trans hx0
      obtain ⟨x0, x1⟩ := HN.out k
      rw [← HP.out] at x0 x1
      obtain ⟨y, hy⟩ : ∃ y, ms k = y := ⟨_, rfl⟩
      obtain ⟨y0, y1⟩ := HM.out k
      rw [hy] at y0 y1
      have HE : Hid (mapE op xs ms k = op x y % 113) := Lib.hid (by rw [mapE, hy, ← HP.out])
      have HY := Lib.hid hy
      obtain ⟨v, hv⟩ : ∃ v, op x y % 113 = v := ⟨_, rfl⟩
      have HV := Lib.hid hv
      clear hy hv hx0
      have i0 : (0 : Int) ≤ (k : Int) := by omega
      have i1 : (k : Int) < (n : Int) := by omega
      go_wp2_with fail
      refine (HS1.out wr k HB.out hlt).mono ?_
      rintro e w1 ⟨b, rfl, hc, hb⟩
      rw [HY.out] at hc
      have HO1 := Lib.hid (HO.out.below hb (by have := HZ.out; omega))
      have HB1 := Lib.hid (HB.out.trans (hb.mono HB.out.size))
      have HZ1 : Hid (w.heap.size < w1.heap.size) := Lib.hid (by have := HZ.out; have := hb.size; omega)
      clear HO HB HZ hb hx
      go_wp2_with fail
      refine (HG1.out x y b w1 hc x0 x1 y0 y1).mono ?_
      rintro e w2 ⟨rfl, rfl⟩
      rw [HV.out]
      obtain ⟨v0, hv0⟩ : ∃ v, w1.cell? ⟨w.heap.size, k, none⟩ = some v := ⟨_, HO1.out.cellAt (List.getElem?_eq_getElem (by have := HO1.out.1; omega))⟩
      have hf := HO1.out.free (by omega) k
      have HO2 := Lib.hid (HO1.out.set k (.int .i64 v))
      have HET : Hid ((mapK op xs ms k ++ List.replicate (n - k) 0).set k v = mapK op xs ms (k + 1) ++ List.replicate (n - (k + 1)) 0) := Lib.hid (by rw [← map_step op xs ms hlt, HE.out, HV.out])
      rw [cI_set, HET.out] at HO2
      have HB2 := Lib.hid (HB1.out.setCell (p := ⟨w.heap.size, k, none⟩) (by simp) (.int .i64 v))
      have HZ2 : Hid (w.heap.size < (w1.setCell ⟨w.heap.size, k, none⟩ (.int .i64 v)).heap.size) := Lib.hid (by rw [World.size_setCell]; exact HZ1.out)
      clear HO1 HB1 HZ1 HE HET hc HV HY
      go_wp2
      go_roundw
      case rel => exact ⟨k + 1, by omega, by go_num, HO2, HB2, HZ2⟩
      case measure => simp [intOf] <;> omega
    · have hkn : k = n := by omega
      have HOF : Hid (OwIntS wr w.heap.size wr.heap.size (.slice (some ⟨w.heap.size, 0, none⟩) n n) (mapK op xs ms n)) := Lib.hid (by
        have := HO.out
        rw [hkn, Nat.sub_self, List.replicate_zero, List.append_nil] at this
        exact ⟨by rw [mapK_length]; omega, _, _, _, rfl, this.widen (Nat.le_refl _) HZ.out⟩)
      clear HO hkn
      go_wp2
      go_ret
      exact ⟨_, _, rfl, HOF.out, HB.out⟩

set_option maxHeartbeats 4000000 in
theorem i_answer1 (k : Nat) (b1 b2 b3 : Nat) (A : Option Addr) (n c : Nat) (ds : List Int) (t : Int) (w : World) (h1 : w.cell? ⟨b1, 0, none⟩ = some (.slice A n c)) (h2 : w.cell? ⟨b2, 0, none⟩ = some (.int .i64 t)) (h3 : w.cell? ⟨b3, 0, none⟩ = some (.int .i64 n))
    (l1 : b1 < w.heap.size) (l2 : b2 < w.heap.size) (l3 : b3 < w.heap.size) (H : Rd w w.heap.size 1 A n (cI ds)) (hk : k < n) (hn : n ≤ 8) (t0 : 0 ≤ t) (t1 : t < n) :
    Calls Try.prog 108 #[.int .i64 k, .pointer (some ⟨b1, 0, none⟩), .pointer (some ⟨b2, 0, none⟩), .pointer (some ⟨b3, 0, none⟩)] w fun e w' => ∃ b, e = .returned (.func (.func 138) #[] #[.pointer (some ⟨b, 0, none⟩)]) ∧ w'.cell? ⟨b, 0, none⟩ = some (.int .i64 (atM ds t n k)) ∧ Below w.heap.size w w' := by
  obtain ⟨bd0, bd1⟩ := emod_bd ((k : Int) + t) (show 0 < (n : Int) by omega)
  obtain ⟨j, hj⟩ : ∃ j : Nat, ((k : Int) + t) % n = (j : Int) := ⟨(((k : Int) + t) % n).toNat, by omega⟩
  have hjn : j < n := by omega
  obtain ⟨a, y, rfl, hab, hy, HY⟩ := H.intAt hjn
  have HE : Hid (atM ds t n k = y) := Lib.hid (by rw [atM, hj, Int.toNat_natCast, ← HY.out])
  rw [HE.out]
  have HJ := Lib.hid hj
  have j0 : (0 : Int) ≤ (j : Int) := by omega
  have j1 : (j : Int) < (n : Int) := by omega
  have hb := Below.refl w.heap.size w
  have hal : ∀ o, Below w.heap.size w (w.alloc o) ∧ (w.alloc o).cell? ⟨b1, 0, none⟩ = some (.slice (some a) n c) ∧ (w.alloc o).cell? ⟨b2, 0, none⟩ = some (.int .i64 t) ∧ (w.alloc o).cell? ⟨b3, 0, none⟩ = some (.int .i64 n) ∧ (w.alloc o).cell? (a.add j) = some (.int .i64 y) := fun o =>
    have hB := hb.alloc (Nat.le_refl _) o
    ⟨hB, (hB.cell (p := ⟨b1, 0, none⟩) l1).trans h1, (hB.cell (p := ⟨b2, 0, none⟩) l2).trans h2, (hB.cell (p := ⟨b3, 0, none⟩) l3).trans h3, (hB.cell (p := a.add j) (by rw [add_block]; exact hab)).trans hy⟩
  clear hj bd0 bd1 H HE HY
  go_enter Try.func108, Try.ntmps108
  go_wp2
  go_region_held3 (fun w' => Below w.heap.size w w' ∧ w'.cell? ⟨b1, 0, none⟩ = some (.slice (some a) n c) ∧ w'.cell? ⟨b2, 0, none⟩ = some (.int .i64 t) ∧ w'.cell? ⟨b3, 0, none⟩ = some (.int .i64 n) ∧ w'.cell? (a.add j) = some (.int .i64 y))
    (first | exact ⟨hb, h1, h2, h3, hy⟩ | exact ⟨hb.drew, h1, h2, h3, hy⟩ | exact hal _ | exact ⟨(hal _).1.drew, (hal _).2⟩)
    (first
      | (go_at_call 110
         refine (i_indexPlus _ _ _ _ ⟨by omega, by omega⟩ ⟨t0, t1⟩ (by omega)).mono ?_
         rintro e w2 ⟨rfl, rfl⟩
         rw [HJ.out])
      | (go_at_call 109
         refine (i_puttingOn _ _).mono ?_
         rintro e w1 ⟨b, rfl, zb, hx, hw1⟩
         have hs1 : Below w.heap.size w w1 ∧ w1.cell? ⟨b1, 0, none⟩ = some (.slice (some a) n c) ∧ w1.cell? ⟨b2, 0, none⟩ = some (.int .i64 t) ∧ w1.cell? ⟨b3, 0, none⟩ = some (.int .i64 n) ∧ w1.cell? (a.add j) = some (.int .i64 y) := by rw [hw1]; first | exact hal _ | exact ⟨(hal _).1.drew, (hal _).2⟩
         obtain ⟨hb, h1, h2, h3, hy⟩ := hs1
         have hx0 : w1.cell? ⟨b, 0, none⟩ = some (.int .i64 y) := hx.cell 0
         clear hal hw1 zb
         have hal : True := trivial))
  have HB2 := Lib.hid hb
  have HX2 := Lib.hid hx0
  clear hb hx0
  go_wp2
  go_ret
  exact ⟨b, rfl, HX2.out, HB2.out⟩
end Go.Proofs.Ythfkjaofgpgoeaa

/- Chapter 11: the closures of ChoiceMasks. Made by tools/gen11/masks1.py. -/
namespace Go.Proofs.Ythfkjaofgpgoeaa
open Go.RowKit
set_option maxRecDepth 100000

/-- the thing at a place -/
def atT (xs : List Int) (a : Int) (n : Nat) (k : Nat) : Int := xs.getD (((k : Int) - a) % n).toNat 0
theorem atT_bd {xs : List Int} (h : Nums xs) (t : Int) (n k : Nat) : 0 ≤ atT xs t n k ∧ atT xs t n k ≤ 112 := h _

set_option maxHeartbeats 1000000 in
theorem i_thing (k : Nat) (b1 b2 : Nat) (n : Nat) (t : Int) (w : World) (h1 : w.cell? ⟨b1, 0, none⟩ = some (.int .i64 t)) (h2 : w.cell? ⟨b2, 0, none⟩ = some (.int .i64 n)) (hk : k < n) (hn : n ≤ 8) (t0 : 0 ≤ t) (t1 : t < n) :
    Calls Try.prog 112 #[.int .i64 k, .pointer (some ⟨b1, 0, none⟩), .pointer (some ⟨b2, 0, none⟩)] w fun e w' => e = .returned (.int .i64 (((k : Int) - t) % n)) ∧ w = w' := by
  go_enter Try.func112, Try.ntmps112
  go_wp2_with fail
  refine (i_indexMinus _ _ _ _ ⟨by omega, by omega⟩ ⟨t0, t1⟩ (by omega)).mono ?_
  rintro e w' ⟨rfl, rfl⟩
  go_wp2
  go_ret
  exact ⟨rfl, rfl⟩

set_option maxHeartbeats 4000000 in
theorem i_masks2 (k : Nat) (b1 b2 b3 b4 : Nat) (A : Option Addr) (n c : Nat) (xs : List Int) (t : Int) (w : World) (h1 : w.cell? ⟨b1, 0, none⟩ = some (.int .i64 t)) (h2 : w.cell? ⟨b2, 0, none⟩ = some (.int .i64 n)) (h3 : w.cell? ⟨b3, 0, none⟩ = some (.slice A n c)) (h4 : w.cell? ⟨b4, 0, none⟩ = some (.func (.func 112) #[] #[.pointer (some ⟨b1, 0, none⟩), .pointer (some ⟨b2, 0, none⟩)]))
    (l1 : b1 < w.heap.size) (l2 : b2 < w.heap.size) (l3 : b3 < w.heap.size) (l4 : b4 < w.heap.size) (H : Rd w w.heap.size 1 A n (cI xs)) (hk : k < n) (hn : n ≤ 8) (t0 : 0 ≤ t) (t1 : t < n) :
    Calls Try.prog 113 #[.int .i64 k, .pointer (some ⟨b3, 0, none⟩), .pointer (some ⟨b4, 0, none⟩)] w fun e w' => ∃ b, e = .returned (.func (.func 138) #[] #[.pointer (some ⟨b, 0, none⟩)]) ∧ w'.cell? ⟨b, 0, none⟩ = some (.int .i64 (atT xs t n k)) ∧ Below w.heap.size w w' := by
  obtain ⟨bd0, bd1⟩ := emod_bd ((k : Int) - t) (show 0 < (n : Int) by omega)
  obtain ⟨j, hj⟩ : ∃ j : Nat, ((k : Int) - t) % n = (j : Int) := ⟨(((k : Int) - t) % n).toNat, by omega⟩
  have hjn : j < n := by omega
  obtain ⟨a, y, rfl, hab, hy, HY⟩ := H.intAt hjn
  have HE : Hid (atT xs t n k = y) := Lib.hid (by rw [atT, hj, Int.toNat_natCast, ← HY.out])
  rw [HE.out]
  have HJ := Lib.hid hj
  have j0 : (0 : Int) ≤ (j : Int) := by omega
  have j1 : (j : Int) < (n : Int) := by omega
  have hb := Below.refl w.heap.size w
  have hal : ∀ o, Below w.heap.size w (w.alloc o) ∧ (w.alloc o).cell? ⟨b1, 0, none⟩ = some (.int .i64 t) ∧ (w.alloc o).cell? ⟨b2, 0, none⟩ = some (.int .i64 n) ∧ (w.alloc o).cell? ⟨b3, 0, none⟩ = some (.slice (some a) n c) ∧ (w.alloc o).cell? ⟨b4, 0, none⟩ = some (.func (.func 112) #[] #[.pointer (some ⟨b1, 0, none⟩), .pointer (some ⟨b2, 0, none⟩)]) ∧ (w.alloc o).cell? (a.add j) = some (.int .i64 y) := fun o =>
    have hB := hb.alloc (Nat.le_refl _) o
    ⟨hB, (hB.cell (p := ⟨b1, 0, none⟩) l1).trans h1, (hB.cell (p := ⟨b2, 0, none⟩) l2).trans h2, (hB.cell (p := ⟨b3, 0, none⟩) l3).trans h3, (hB.cell (p := ⟨b4, 0, none⟩) l4).trans h4, (hB.cell (p := a.add j) (by rw [add_block]; exact hab)).trans hy⟩
  clear hj bd0 bd1 H HE HY
  go_enter Try.func113, Try.ntmps113
  go_wp2
  go_region_held3 (fun w' => Below w.heap.size w w' ∧ w'.cell? ⟨b1, 0, none⟩ = some (.int .i64 t) ∧ w'.cell? ⟨b2, 0, none⟩ = some (.int .i64 n) ∧ w'.cell? ⟨b3, 0, none⟩ = some (.slice (some a) n c) ∧ w'.cell? ⟨b4, 0, none⟩ = some (.func (.func 112) #[] #[.pointer (some ⟨b1, 0, none⟩), .pointer (some ⟨b2, 0, none⟩)]) ∧ w'.cell? (a.add j) = some (.int .i64 y))
    (first | exact ⟨hb, h1, h2, h3, h4, hy⟩ | exact ⟨hb.drew, h1, h2, h3, h4, hy⟩ | exact hal _ | exact ⟨(hal _).1.drew, (hal _).2⟩)
    (first
      | (go_at_call 112
         refine (i_thing k _ _ n t _ (by assumption) (by assumption) hk hn t0 t1).mono ?_
         rintro e w2 ⟨rfl, rfl⟩
         rw [HJ.out])
      | (go_at_call 109
         refine (i_puttingOn _ _).mono ?_
         rintro e w1 ⟨b, rfl, zb, hx, hw1⟩
         have hs1 : Below w.heap.size w w1 ∧ w1.cell? ⟨b1, 0, none⟩ = some (.int .i64 t) ∧ w1.cell? ⟨b2, 0, none⟩ = some (.int .i64 n) ∧ w1.cell? ⟨b3, 0, none⟩ = some (.slice (some a) n c) ∧ w1.cell? ⟨b4, 0, none⟩ = some (.func (.func 112) #[] #[.pointer (some ⟨b1, 0, none⟩), .pointer (some ⟨b2, 0, none⟩)]) ∧ w1.cell? (a.add j) = some (.int .i64 y) := by rw [hw1]; first | exact hal _ | exact ⟨(hal _).1.drew, (hal _).2⟩
         obtain ⟨hb, h1, h2, h3, h4, hy⟩ := hs1
         have hx0 : w1.cell? ⟨b, 0, none⟩ = some (.int .i64 y) := hx.cell 0
         clear hal hw1 zb
         have hal : True := trivial))
  have HB2 := Lib.hid hb
  have HX2 := Lib.hid hx0
  clear hb hx0
  go_wp2
  go_ret
  exact ⟨b, rfl, HX2.out, HB2.out⟩

set_option maxHeartbeats 4000000 in
theorem i_masks3 (k : Nat) (b1 b2 b3 b4 : Nat) (A : Option Addr) (n c : Nat) (xs : List Int) (t : Int) (w : World) (h1 : w.cell? ⟨b1, 0, none⟩ = some (.int .i64 t)) (h2 : w.cell? ⟨b2, 0, none⟩ = some (.int .i64 n)) (h3 : w.cell? ⟨b3, 0, none⟩ = some (.slice A n c)) (h4 : w.cell? ⟨b4, 0, none⟩ = some (.func (.func 112) #[] #[.pointer (some ⟨b1, 0, none⟩), .pointer (some ⟨b2, 0, none⟩)]))
    (l1 : b1 < w.heap.size) (l2 : b2 < w.heap.size) (l3 : b3 < w.heap.size) (l4 : b4 < w.heap.size) (H : Rd w w.heap.size 1 A n (cI xs)) (hk : k < n) (hn : n ≤ 8) (t0 : 0 ≤ t) (t1 : t < n) :
    Calls Try.prog 114 #[.int .i64 k, .pointer (some ⟨b3, 0, none⟩), .pointer (some ⟨b4, 0, none⟩)] w fun e w' => ∃ b, e = .returned (.func (.func 139) #[] #[.pointer (some ⟨b, 0, none⟩)]) ∧ w'.cell? ⟨b, 0, none⟩ = some (.int .i64 (atT xs t n k)) ∧ Below w.heap.size w w' := by
  obtain ⟨bd0, bd1⟩ := emod_bd ((k : Int) - t) (show 0 < (n : Int) by omega)
  obtain ⟨j, hj⟩ : ∃ j : Nat, ((k : Int) - t) % n = (j : Int) := ⟨(((k : Int) - t) % n).toNat, by omega⟩
  have hjn : j < n := by omega
  obtain ⟨a, y, rfl, hab, hy, HY⟩ := H.intAt hjn
  have HE : Hid (atT xs t n k = y) := Lib.hid (by rw [atT, hj, Int.toNat_natCast, ← HY.out])
  rw [HE.out]
  have HJ := Lib.hid hj
  have j0 : (0 : Int) ≤ (j : Int) := by omega
  have j1 : (j : Int) < (n : Int) := by omega
  have hb := Below.refl w.heap.size w
  have hal : ∀ o, Below w.heap.size w (w.alloc o) ∧ (w.alloc o).cell? ⟨b1, 0, none⟩ = some (.int .i64 t) ∧ (w.alloc o).cell? ⟨b2, 0, none⟩ = some (.int .i64 n) ∧ (w.alloc o).cell? ⟨b3, 0, none⟩ = some (.slice (some a) n c) ∧ (w.alloc o).cell? ⟨b4, 0, none⟩ = some (.func (.func 112) #[] #[.pointer (some ⟨b1, 0, none⟩), .pointer (some ⟨b2, 0, none⟩)]) ∧ (w.alloc o).cell? (a.add j) = some (.int .i64 y) := fun o =>
    have hB := hb.alloc (Nat.le_refl _) o
    ⟨hB, (hB.cell (p := ⟨b1, 0, none⟩) l1).trans h1, (hB.cell (p := ⟨b2, 0, none⟩) l2).trans h2, (hB.cell (p := ⟨b3, 0, none⟩) l3).trans h3, (hB.cell (p := ⟨b4, 0, none⟩) l4).trans h4, (hB.cell (p := a.add j) (by rw [add_block]; exact hab)).trans hy⟩
  clear hj bd0 bd1 H HE HY
  go_enter Try.func114, Try.ntmps114
  go_wp2
  go_region_held3 (fun w' => Below w.heap.size w w' ∧ w'.cell? ⟨b1, 0, none⟩ = some (.int .i64 t) ∧ w'.cell? ⟨b2, 0, none⟩ = some (.int .i64 n) ∧ w'.cell? ⟨b3, 0, none⟩ = some (.slice (some a) n c) ∧ w'.cell? ⟨b4, 0, none⟩ = some (.func (.func 112) #[] #[.pointer (some ⟨b1, 0, none⟩), .pointer (some ⟨b2, 0, none⟩)]) ∧ w'.cell? (a.add j) = some (.int .i64 y))
    (first | exact ⟨hb, h1, h2, h3, h4, hy⟩ | exact ⟨hb.drew, h1, h2, h3, h4, hy⟩ | exact hal _ | exact ⟨(hal _).1.drew, (hal _).2⟩)
    (first
      | (go_at_call 112
         refine (i_thing k _ _ n t _ (by assumption) (by assumption) hk hn t0 t1).mono ?_
         rintro e w2 ⟨rfl, rfl⟩
         rw [HJ.out])
      | (go_at_call 111
         refine (i_takingOff _ _).mono ?_
         rintro e w1 ⟨b, rfl, zb, hx, hw1⟩
         have hs1 : Below w.heap.size w w1 ∧ w1.cell? ⟨b1, 0, none⟩ = some (.int .i64 t) ∧ w1.cell? ⟨b2, 0, none⟩ = some (.int .i64 n) ∧ w1.cell? ⟨b3, 0, none⟩ = some (.slice (some a) n c) ∧ w1.cell? ⟨b4, 0, none⟩ = some (.func (.func 112) #[] #[.pointer (some ⟨b1, 0, none⟩), .pointer (some ⟨b2, 0, none⟩)]) ∧ w1.cell? (a.add j) = some (.int .i64 y) := by rw [hw1]; first | exact hal _ | exact ⟨(hal _).1.drew, (hal _).2⟩
         obtain ⟨hb, h1, h2, h3, h4, hy⟩ := hs1
         have hx0 : w1.cell? ⟨b, 0, none⟩ = some (.int .i64 y) := hx.cell 0
         clear hal hw1 zb
         have hal : True := trivial))
  have HB2 := Lib.hid hb
  have HX2 := Lib.hid hx0
  clear hb hx0
  go_wp2
  go_ret
  exact ⟨b, rfl, HX2.out, HB2.out⟩
end Go.Proofs.Ythfkjaofgpgoeaa

/- Chapter 11: the program's ChoiceAnswer. -/
namespace Go.Proofs.Ythfkjaofgpgoeaa
open Go.RowKit
set_option maxRecDepth 100000

theorem eg_answer1 (args : Array Value) (W : World) : (callFunc 108 args).run Try.prog W = .ok (.enter 108 args) W := by kernel_rfl
theorem eg_putting1 (args : Array Value) (W : World) : (callFunc 138 args).run Try.prog W = .ok (.enter 138 args) W := by kernel_rfl
theorem atM_bd {ds : List Int} (h : Nums ds) (t : Int) (n k : Nat) : 0 ≤ atM ds t n k ∧ atM ds t n k ≤ 112 := h _
theorem i_dealOk_of (A : Option Addr) (n c : Nat) (z : Int) (ds : List Int) {w W : World} (h : Rd w w.heap.size 1 A n (cI ds)) (hn : n ≤ 1048576) (hb : Below w.heap.size w W) :
    Calls Try.prog 50 #[.agg #[.slice A n c, .int .i64 z]] W fun e w' => e = .returned (.bool (dealB (ds, z))) ∧ Below W.heap.size W w' := i_DealOk A n c z ds W ((h.below hb).more hb.size) hn

set_option maxHeartbeats 4000000 in
theorem i_ChoiceAnswer (A : Option Addr) (n c : Nat) (z : Int) (ds : List Int) (A' : Option Addr) (n' c' : Nat) (xs : List Int) (t : Int) (w : World) (h : Rd w w.heap.size 1 A n (cI ds)) (hn : n ≤ 1048576) (h' : Rd w w.heap.size 1 A' n' (cI xs)) (hn' : n' ≤ 1048576) :
    Calls Try.prog 55 #[.agg #[.slice A n c, .int .i64 z], .slice A' n' c', .int .i64 t] w fun e w' => ∃ g, e = .returned (.tuple #[g, .bool (R_ChoiceAnswer_1 (ds, z) xs t)]) ∧ OwIntS w' w.heap.size w'.heap.size g (R_ChoiceAnswer_0 (ds, z) xs t) ∧ Below w.heap.size w w' := by
  have HD := Lib.hid h
  have HR := Lib.hid h'
  have HL := Lib.hid h.len
  have HL' := Lib.hid h'.len
  clear h h'
  obtain ⟨W3, hW⟩ : ∃ W, Hid (((w.alloc (.cells #[.slice A n c, .int .i64 z] 53)).alloc (.cells #[.int .i64 t] 3)).alloc (.cells #[.int .i64 n] 3) = W) := ⟨_, Lib.hid rfl⟩
  have HB0 : Hid (Below w.heap.size w W3) := Lib.hid (by rw [← hW.out]; exact (((Below.refl _ _).alloc (Nat.le_refl _) _).alloc (by simp) _).alloc (by simp only [World.size_alloc]; omega) _)
  have HX0 : Hid (Bx W3 w.heap.size #[.slice A n c, .int .i64 z] 53) := Lib.hid (by rw [← hW.out]; exact ((Bx.new _ _ _).alloc _).alloc _)
  have HT0 : Hid (Bx W3 (w.heap.size + 1) #[.int .i64 t] 3) := Lib.hid (by
    rw [← hW.out]; have := (Bx.new (w.alloc (.cells #[.slice A n c, .int .i64 z] 53)) #[.int .i64 t] 3).alloc (.cells #[.int .i64 n] 3); rwa [World.size_alloc] at this)
  have HN0 : Hid (Bx W3 (w.heap.size + 1 + 1) #[.int .i64 n] 3) := Lib.hid (by
    rw [← hW.out]; have := Bx.new ((w.alloc (.cells #[.slice A n c, .int .i64 z] 53)).alloc (.cells #[.int .i64 t] 3)) #[.int .i64 n] 3; rwa [World.size_alloc, World.size_alloc] at this)
  go_enter Try.func55, Try.ntmps55
  go_wp2_with fail
  rw [hW.out]
  clear hW
  refine (i_dealOk_of A n c z ds HD.out hn HB0.out).mono ?_
  rintro e w1 ⟨rfl, hb⟩
  have HX1 := Lib.hid (HX0.out.below hb HX0.out.lt)
  have HT1 := Lib.hid (HT0.out.below hb HT0.out.lt)
  have HN1 := Lib.hid (HN0.out.below hb HN0.out.lt)
  have HB1 : Hid (Below w.heap.size w w1) := Lib.hid (HB0.out.trans (hb.mono HB0.out.size))
  clear hb HX0 HT0 HN0 HB0
  have c0 : w1.cell? ⟨w.heap.size, 0, none⟩ = some (.slice A n c) := HX1.out.cell 0
  have c1 : w1.cell? ⟨w.heap.size + 1, 0, none⟩ = some (.int .i64 t) := HT1.out.cell 0
  have c2 : w1.cell? ⟨w.heap.size + 1 + 1, 0, none⟩ = some (.int .i64 n) := HN1.out.cell 0
  cases e1 : dealB (ds, z)
  · have HF : Hid (R_ChoiceAnswer_1 (ds, z) xs t = false) := Lib.hid (by simp [R_ChoiceAnswer_1, thingsB, e1])
    have HE : Hid (R_ChoiceAnswer_0 (ds, z) xs t = []) := Lib.hid (by simp [R_ChoiceAnswer_0, HF.out])
    go_wp2
    go_ret2
    refine ⟨_, ret_vb HF.out.symm, ?_, HB1.out⟩
    rw [HE.out]; exact OwIntS.nil_ _ _ _
  have HT : Hid (thingsB (ds, z) xs = (decide ((n' : Int) = n) && numsB xs)) := Lib.hid (by simp only [thingsB, e1, HL.out, HL'.out, Bool.true_and, Int.ofNat_inj])
  go_wp2_with fail
  refine (i_manyNumbers _ _ _ _ _ _ ((HR.out.below HB1.out).more HB1.out.size) hn').mono ?_
  rintro e w' ⟨rfl, rfl⟩
  cases e2 : (decide ((n' : Int) = n) && numsB xs)
  · have HF : Hid (R_ChoiceAnswer_1 (ds, z) xs t = false) := Lib.hid (by simp only [R_ChoiceAnswer_1, HT.out, e2, Bool.false_and])
    have HE : Hid (R_ChoiceAnswer_0 (ds, z) xs t = []) := Lib.hid (by simp [R_ChoiceAnswer_0, HF.out])
    go_wp2
    go_ret2
    refine ⟨_, ret_vb HF.out.symm, ?_, HB1.out⟩
    rw [HE.out]; exact OwIntS.nil_ _ _ _
  have HT2 := Lib.hid (HT.out.trans e2)
  simp only [Bool.and_eq_true, decide_eq_true_eq] at e2
  obtain ⟨hnn, hxs⟩ := e2
  simp only [dealB, Bool.and_eq_true, inB_iff] at e1
  obtain ⟨⟨n2, n8⟩, hds, z0, z1⟩ := e1
  rw [HL.out] at n2 n8 z1
  have HNd := Lib.hid (nums_of_B hds)
  have HNx := Lib.hid (nums_of_B hxs)
  clear HT hds hxs
  obtain rfl : n = n' := by omega
  clear hnn
  go_wp2_with fail
  refine (i_indexOk _ _ _).mono ?_
  rintro e w' ⟨rfl, rfl⟩
  cases e3 : inB t 0 ((n : Int) - 1)
  · have HF : Hid (R_ChoiceAnswer_1 (ds, z) xs t = false) := Lib.hid (by simp [R_ChoiceAnswer_1, HL.out, e3])
    have HE : Hid (R_ChoiceAnswer_0 (ds, z) xs t = []) := Lib.hid (by simp [R_ChoiceAnswer_0, HF.out])
    go_wp2
    go_ret2
    refine ⟨_, ret_vb HF.out.symm, ?_, HB1.out⟩
    rw [HE.out]; exact OwIntS.nil_ _ _ _
  have HF : Hid (R_ChoiceAnswer_1 (ds, z) xs t = true) := Lib.hid (by simp [R_ChoiceAnswer_1, HT2.out, HL.out, e3])
  have HE : Hid (R_ChoiceAnswer_0 (ds, z) xs t = mapK (fun x y => x + y) xs (atM ds t n) n) := Lib.hid (by rw [R_ChoiceAnswer_0, if_pos HF.out, HL.out])
  obtain ⟨t0, t1⟩ := inB_iff.1 e3
  have HC := Lib.hid c0
  have HC1 := Lib.hid c1
  have HC2 := Lib.hid c2
  have hS : ∀ W (k : Nat), Below w1.heap.size w1 W → k < n → Calls Try.prog 108 (#[.int .i64 k] ++ #[.pointer (some ⟨w.heap.size, 0, none⟩), .pointer (some ⟨w.heap.size + 1, 0, none⟩), .pointer (some ⟨w.heap.size + 1 + 1, 0, none⟩)]) W fun e W' => ∃ b, e = .returned (.func (.func 138) #[] #[.pointer (some ⟨b, 0, none⟩)]) ∧ W'.cell? ⟨b, 0, none⟩ = some (.int .i64 (atM ds t n k)) ∧ Below W.heap.size W W' := fun W k hb hk =>
    i_answer1 k _ _ _ A n c ds t W ((hb.cell (p := ⟨w.heap.size, 0, none⟩) HX1.out.lt).trans HC.out) ((hb.cell (p := ⟨w.heap.size + 1, 0, none⟩) HT1.out.lt).trans HC1.out) ((hb.cell (p := ⟨w.heap.size + 1 + 1, 0, none⟩) HN1.out.lt).trans HC2.out)
      (Nat.lt_of_lt_of_le HX1.out.lt hb.size) (Nat.lt_of_lt_of_le HT1.out.lt hb.size) (Nat.lt_of_lt_of_le HN1.out.lt hb.size) ((((HD.out.below HB1.out).more HB1.out.size).below hb).more hb.size) hk (by omega) t0 (by omega)
  have HS := Lib.hid hS
  clear hS e3 c0 c1 c2
  go_wp2_with fail
  refine (i_masked 108 138 _ (fun x y => x + y) (atM ds t n) A' n c' xs w1 ((HR.out.below HB1.out).more HB1.out.size) HNx.out (fun k => atM_bd HNd.out t n k) (by omega) eg_answer1 eg_putting1 HS.out (fun a m b W hc a0 a1 m0 m1 => i_puttingOn1 a m b W hc a0 a1 m0 m1)).mono ?_
  rintro e w2 ⟨A3, c3, rfl, ho, hb⟩
  have HO : Hid (OwIntS w2 w.heap.size w2.heap.size (.slice A3 n c3) (R_ChoiceAnswer_0 (ds, z) xs t)) := Lib.hid (by rw [HE.out]; exact ho.widen HB1.out.size (Nat.le_refl _))
  have HB2 : Hid (Below w.heap.size w w2) := Lib.hid (HB1.out.trans (hb.mono HB1.out.size))
  clear ho hb
  go_wp2
  go_ret2
  exact ⟨_, ret_vb HF.out.symm, HO.out, HB2.out⟩
theorem X_i_ChoiceAnswer (v v' : Value) (d : List Int × Int) (xs : List Int) (t : Int) (w : World) (h : RdDeal w w.heap.size v d) (h' : RdIntS w w.heap.size v' xs) (hs : szDeal d ≤ 1048576) (hs' : szIntS xs ≤ 1048576) :
    Calls Try.prog 55 #[v, v', .int .i64 t] w fun e w' => ∃ g, e = .returned (.tuple #[g, .bool (R_ChoiceAnswer_1 d xs t)]) ∧ OwIntS w' w.heap.size w'.heap.size g (R_ChoiceAnswer_0 d xs t) ∧ Below w.heap.size w w' := by
  obtain ⟨A, n, c, rfl, B, k, q, hv, _, hr⟩ := h
  injection hv with h1 h2 h3
  subst h1 h2 h3
  obtain ⟨A', n', c', rfl, _, r⟩ := h'
  have hl := hr.len
  exact i_ChoiceAnswer A n c d.2 d.1 A' n' c' xs t w hr (by unfold szDeal szIntS at hs; omega) r (by have := r.len; unfold szIntS at hs'; omega)
end Go.Proofs.Ythfkjaofgpgoeaa

/- Chapter 11: the program's ChoiceMasks. -/
namespace Go.Proofs.Ythfkjaofgpgoeaa
open Go.RowKit
set_option maxRecDepth 100000

def sameB (xs ys : List Int) (c : Int) : Bool := decide (xs.getD c.toNat 0 = ys.getD c.toNat 0)
def R_ChoiceMasks_1 (d : List Int × Int) (c : Int) (xs ys : List Int) : Bool := askB d c && (thingsB d xs && (thingsB d ys && sameB xs ys c))
def R_ChoiceMasks_0 (d : List Int × Int) (c : Int) (xs ys : List Int) : List Int :=
  if R_ChoiceMasks_1 d c xs ys = true then mapK (fun x y => x - y) (mapK (fun x y => x + y) d.1 (atT xs (askV d c) d.1.length) d.1.length) (atT ys (askV d c) d.1.length) d.1.length else []
theorem eg_masks2 (args : Array Value) (W : World) : (callFunc 113 args).run Try.prog W = .ok (.enter 113 args) W := by kernel_rfl
theorem eg_masks3 (args : Array Value) (W : World) : (callFunc 114 args).run Try.prog W = .ok (.enter 114 args) W := by kernel_rfl
theorem eg_taking1 (args : Array Value) (W : World) : (callFunc 139 args).run Try.prog W = .ok (.enter 139 args) W := by kernel_rfl
theorem mapK_nums (op : Int → Int → Int) (xs : List Int) (ms : Nat → Int) (k : Nat) : Nums (mapK op xs ms k) := by
  induction k with
  | zero => intro j; simp [mapK]
  | succ k ih =>
    intro j
    have hl := mapK_length op xs ms k
    rw [mapK]
    by_cases h : j < k
    · rw [List.getD_eq_getElem?_getD, List.getElem?_append_left (by omega), ← List.getD_eq_getElem?_getD]; exact ih j
    · rw [List.getD_eq_getElem?_getD, List.getElem?_append_right (by omega), ← List.getD_eq_getElem?_getD, hl]
      cases hj : j - k with
      | zero => simp only [List.getD_cons_zero, mapE]; omega
      | succ m => simp

set_option maxHeartbeats 4000000 in
theorem i_ChoiceMasks (A : Option Addr) (n c : Nat) (z : Int) (ds : List Int) (ch : Int) (A1 : Option Addr) (n1 c1 : Nat) (xs : List Int) (A2 : Option Addr) (n2 c2 : Nat) (ys : List Int) (w : World) (h : Rd w w.heap.size 1 A n (cI ds)) (hn : n ≤ 1048576) (h1 : Rd w w.heap.size 1 A1 n1 (cI xs)) (hn1 : n1 ≤ 1048576) (h2 : Rd w w.heap.size 1 A2 n2 (cI ys)) (hn2 : n2 ≤ 1048576) :
    Calls Try.prog 63 #[.agg #[.slice A n c, .int .i64 z], .int .i64 ch, .slice A1 n1 c1, .slice A2 n2 c2] w fun e w' => ∃ g, e = .returned (.tuple #[g, .bool (R_ChoiceMasks_1 (ds, z) ch xs ys)]) ∧ OwIntS w' w.heap.size w'.heap.size g (R_ChoiceMasks_0 (ds, z) ch xs ys) ∧ Below w.heap.size w w' := by
  have HD := Lib.hid h
  have HR1 := Lib.hid h1
  have HR2 := Lib.hid h2
  have HL := Lib.hid h.len
  have HL1 := Lib.hid h1.len
  have HL2 := Lib.hid h2.len
  clear h h1 h2
  obtain ⟨W4, hW⟩ : ∃ W, Hid ((((w.alloc (.cells #[.slice A n c, .int .i64 z] 53)).alloc (.cells #[.slice A1 n1 c1] 22)).alloc (.cells #[.slice A2 n2 c2] 22)).alloc (.cells #[.int .i64 n] 3) = W) := ⟨_, Lib.hid rfl⟩
  have HB0 : Hid (Below w.heap.size w W4) := Lib.hid (by rw [← hW.out]; exact ((((Below.refl _ _).alloc (Nat.le_refl _) _).alloc (by simp only [World.size_alloc]; omega) _).alloc (by simp only [World.size_alloc]; omega) _).alloc (by simp only [World.size_alloc]; omega) _)
  have HX0 : Hid (Bx W4 w.heap.size #[.slice A n c, .int .i64 z] 53) := Lib.hid (by rw [← hW.out]; exact (((Bx.new _ _ _).alloc _).alloc _).alloc _)
  have HT0 : Hid (Bx W4 (w.heap.size + 1) #[.slice A1 n1 c1] 22) := Lib.hid (by
    rw [← hW.out]; have := ((Bx.new (w.alloc (.cells #[.slice A n c, .int .i64 z] 53)) #[.slice A1 n1 c1] 22).alloc (.cells #[.slice A2 n2 c2] 22)).alloc (.cells #[.int .i64 n] 3); rwa [World.size_alloc] at this)
  have HO0 : Hid (Bx W4 (w.heap.size + 1 + 1) #[.slice A2 n2 c2] 22) := Lib.hid (by
    rw [← hW.out]; have := (Bx.new ((w.alloc (.cells #[.slice A n c, .int .i64 z] 53)).alloc (.cells #[.slice A1 n1 c1] 22)) #[.slice A2 n2 c2] 22).alloc (.cells #[.int .i64 n] 3); rwa [World.size_alloc, World.size_alloc] at this)
  have HN0 : Hid (Bx W4 (w.heap.size + 1 + 1 + 1) #[.int .i64 n] 3) := Lib.hid (by
    rw [← hW.out]; have := Bx.new (((w.alloc (.cells #[.slice A n c, .int .i64 z] 53)).alloc (.cells #[.slice A1 n1 c1] 22)).alloc (.cells #[.slice A2 n2 c2] 22)) #[.int .i64 n] 3; rwa [World.size_alloc, World.size_alloc, World.size_alloc] at this)
  go_enter Try.func63, Try.ntmps63
  go_wp2_with fail
  rw [hW.out]
  clear hW
  refine (i_ChoiceAsk A n c z ds ch _ ((HD.out.below HB0.out).more HB0.out.size) hn).mono ?_
  rintro e w0 ⟨rfl, hb⟩
  obtain ⟨v, hv⟩ : ∃ v, askV (ds, z) ch = v := ⟨_, rfl⟩
  have HV := Lib.hid hv
  rw [hv]
  clear hv
  obtain ⟨W1, hW1⟩ : ∃ W, Hid (w0.alloc (.cells #[.int .i64 v] 3) = W) := ⟨_, Lib.hid rfl⟩
  obtain ⟨b5, hb5⟩ : ∃ b, Hid (w0.heap.size = b) := ⟨_, Lib.hid rfl⟩
  have HA1 : Hid (Bx W1 b5 #[.int .i64 v] 3) := Lib.hid (by rw [← hW1.out, ← hb5.out]; exact Bx.new _ _ _)
  have HX1 : Hid (Bx W1 w.heap.size #[.slice A n c, .int .i64 z] 53) := Lib.hid (by rw [← hW1.out]; exact (HX0.out.below hb HX0.out.lt).alloc _)
  have HT1 : Hid (Bx W1 (w.heap.size + 1) #[.slice A1 n1 c1] 22) := Lib.hid (by rw [← hW1.out]; exact (HT0.out.below hb HT0.out.lt).alloc _)
  have HO1 : Hid (Bx W1 (w.heap.size + 1 + 1) #[.slice A2 n2 c2] 22) := Lib.hid (by rw [← hW1.out]; exact (HO0.out.below hb HO0.out.lt).alloc _)
  have HN1 : Hid (Bx W1 (w.heap.size + 1 + 1 + 1) #[.int .i64 n] 3) := Lib.hid (by rw [← hW1.out]; exact (HN0.out.below hb HN0.out.lt).alloc _)
  have HB1 : Hid (Below w.heap.size w W1) := Lib.hid (by rw [← hW1.out]; have := HB0.out.trans (hb.mono HB0.out.size); exact this.alloc this.size _)
  clear hb HX0 HT0 HO0 HN0 HB0
  cases e1 : askB (ds, z) ch
  · have HF : Hid (R_ChoiceMasks_1 (ds, z) ch xs ys = false) := Lib.hid (by simp [R_ChoiceMasks_1, e1])
    have HE : Hid (R_ChoiceMasks_0 (ds, z) ch xs ys = []) := Lib.hid (by simp [R_ChoiceMasks_0, HF.out])
    go_wp2
    rw [hW1.out, hb5.out]
    go_quiet (fail)
    go_wp2
    go_ret2
    refine ⟨_, ret_vb HF.out.symm, ?_, below_drewN HB1.out _⟩
    rw [HE.out]; exact OwIntS.nil_ _ _ _
  have hd := e1
  simp only [askB, dealB, Bool.and_eq_true, inB_iff] at hd
  obtain ⟨⟨⟨n2_, n8⟩, hds, z0, z1⟩, q0, q1⟩ := hd
  have hvv : askV (ds, z) ch = (z - ch) % (n : Int) := by unfold askV; rw [if_pos e1, HL.out]
  rw [HL.out] at n2_ n8 z1 q1
  obtain ⟨v0, v1⟩ := emod_bd (z - ch) (show 0 < (n : Int) by omega)
  rw [← hvv, HV.out] at v0 v1
  have HDE : Hid (dealB (ds, z) = true) := Lib.hid (by simp only [askB, Bool.and_eq_true] at e1; exact e1.1)
  have HE1 := Lib.hid e1
  have HNd := Lib.hid (nums_of_B hds)
  clear hvv hds e1
  have k3 : W1.cell? ⟨w.heap.size + 1 + 1 + 1, 0, none⟩ = some (.int .i64 n) := HN1.out.cell 0
  have k1 : W1.cell? ⟨w.heap.size + 1, 0, none⟩ = some (.slice A1 n1 c1) := HT1.out.cell 0
  have k2 : W1.cell? ⟨w.heap.size + 1 + 1, 0, none⟩ = some (.slice A2 n2 c2) := HO1.out.cell 0
  have TX : Hid (thingsB (ds, z) xs = (decide ((n1 : Int) = n) && numsB xs)) := Lib.hid (by simp only [thingsB, HDE.out, HL.out, HL1.out, Bool.true_and, Int.ofNat_inj])
  have TY : Hid (thingsB (ds, z) ys = (decide ((n2 : Int) = n) && numsB ys)) := Lib.hid (by simp only [thingsB, HDE.out, HL.out, HL2.out, Bool.true_and, Int.ofNat_inj])
  cases e2 : (decide ((n1 : Int) = n) && numsB xs)
  · have HM1 : ∀ k, Calls Try.prog 83 #[.slice A1 n1 c1, .int .i64 n] (W1.drewN k) fun e w' => e = .returned (.bool false) ∧ W1.drewN k = w' := fun k => by
      have := i_manyNumbers A1 n1 c1 xs n (W1.drewN k) (((HR1.out.below HB1.out).more HB1.out.size).drewN k) hn1
      rw [e2] at this; exact this
    have HF : Hid (R_ChoiceMasks_1 (ds, z) ch xs ys = false) := Lib.hid (by simp only [R_ChoiceMasks_1, TX.out, e2, Bool.false_and, Bool.and_false])
    have HE : Hid (R_ChoiceMasks_0 (ds, z) ch xs ys = []) := Lib.hid (by simp [R_ChoiceMasks_0, HF.out])
    go_wp2
    rw [hW1.out, hb5.out]
    go_quiet ((go_at_call 83; exact quiet_drewN (HM1 _)))
    go_wp2
    go_ret2
    refine ⟨_, ret_vb HF.out.symm, ?_, below_drewN HB1.out _⟩
    rw [HE.out]; exact OwIntS.nil_ _ _ _
  have HM1 : ∀ k, Calls Try.prog 83 #[.slice A1 n1 c1, .int .i64 n] (W1.drewN k) fun e w' => e = .returned (.bool true) ∧ W1.drewN k = w' := fun k => by
    have := i_manyNumbers A1 n1 c1 xs n (W1.drewN k) (((HR1.out.below HB1.out).more HB1.out.size).drewN k) hn1
    rw [e2] at this; exact this
  cases e3 : (decide ((n2 : Int) = n) && numsB ys)
  · have HM2 : ∀ k, Calls Try.prog 83 #[.slice A2 n2 c2, .int .i64 n] (W1.drewN k) fun e w' => e = .returned (.bool false) ∧ W1.drewN k = w' := fun k => by
      have := i_manyNumbers A2 n2 c2 ys n (W1.drewN k) (((HR2.out.below HB1.out).more HB1.out.size).drewN k) hn2
      rw [e3] at this; exact this
    have HF : Hid (R_ChoiceMasks_1 (ds, z) ch xs ys = false) := Lib.hid (by simp only [R_ChoiceMasks_1, TY.out, e3, Bool.false_and, Bool.and_false])
    have HE : Hid (R_ChoiceMasks_0 (ds, z) ch xs ys = []) := Lib.hid (by simp [R_ChoiceMasks_0, HF.out])
    go_wp2
    rw [hW1.out, hb5.out]
    go_quiet ((go_at_call 83; (first | (with_reducible exact quiet_drewN (HM1 _)) | (with_reducible exact quiet_drewN (HM2 _)))))
    go_wp2
    go_ret2
    refine ⟨_, ret_vb HF.out.symm, ?_, below_drewN HB1.out _⟩
    rw [HE.out]; exact OwIntS.nil_ _ _ _
  have HM2 : ∀ k, Calls Try.prog 83 #[.slice A2 n2 c2, .int .i64 n] (W1.drewN k) fun e w' => e = .returned (.bool true) ∧ W1.drewN k = w' := fun k => by
    have := i_manyNumbers A2 n2 c2 ys n (W1.drewN k) (((HR2.out.below HB1.out).more HB1.out.size).drewN k) hn2
    rw [e3] at this; exact this
  have TX2 := Lib.hid (TX.out.trans e2)
  have TY2 := Lib.hid (TY.out.trans e3)
  simp only [Bool.and_eq_true, decide_eq_true_eq] at e2 e3
  obtain ⟨hn1_, hxs⟩ := e2
  obtain ⟨hn2_, hys⟩ := e3
  have HNx := Lib.hid (nums_of_B hxs)
  have HNy := Lib.hid (nums_of_B hys)
  clear TX TY hxs hys
  obtain rfl : n = n1 := by omega
  obtain rfl : n = n2 := by omega
  clear hn1_ hn2_
  obtain ⟨k, hk⟩ : ∃ k : Nat, ch = (k : Int) := ⟨ch.toNat, by omega⟩
  subst hk
  have hkn : k < n := by omega
  obtain ⟨a1, x, rfl, ab1, hx0, HX⟩ := HR1.out.intAt hkn
  obtain ⟨a2, y, rfl, ab2, hy0, HY⟩ := HR2.out.intAt hkn
  have hx := (HB1.out.cell (p := a1.add k) (by rw [add_block]; exact ab1)).trans hx0
  have hy := (HB1.out.cell (p := a2.add k) (by rw [add_block]; exact ab2)).trans hy0
  have i1 : (k : Int) < (n : Int) := by omega
  have HSM : Hid (sameB xs ys (k : Int) = decide (x = y)) := Lib.hid (by rw [sameB, Int.toNat_natCast, ← HX.out, ← HY.out])
  clear hx0 hy0
  by_cases hxy : x = y
  case neg =>
    have q : (x == y) = false := by rw [beq_eq_false_iff_ne]; exact hxy
    have HF : Hid (R_ChoiceMasks_1 (ds, z) (k : Int) xs ys = false) := Lib.hid (by simp [R_ChoiceMasks_1, HSM.out, hxy])
    have HE : Hid (R_ChoiceMasks_0 (ds, z) (k : Int) xs ys = []) := Lib.hid (by simp [R_ChoiceMasks_0, HF.out])
    go_wp2
    rw [hW1.out, hb5.out]
    go_quiet ((go_at_call 83; (first | (with_reducible exact quiet_drewN (HM1 _)) | (with_reducible exact quiet_drewN (HM2 _)))))
    go_wp2
    go_ret2
    refine ⟨_, ret_vb HF.out.symm, ?_, below_drewN HB1.out _⟩
    rw [HE.out]; exact OwIntS.nil_ _ _ _
  subst hxy
  have HF : Hid (R_ChoiceMasks_1 (ds, z) (k : Int) xs ys = true) := Lib.hid (by simp [R_ChoiceMasks_1, HE1.out, TX2.out, TY2.out, HSM.out])
  have HE : Hid (R_ChoiceMasks_0 (ds, z) (k : Int) xs ys = mapK (fun x y => x - y) (mapK (fun x y => x + y) ds (atT xs v n) n) (atT ys v n) n) := Lib.hid (by rw [R_ChoiceMasks_0, if_pos HF.out, HV.out, HL.out])
  go_wp2
  rw [hW1.out, hb5.out]
  go_quiet ((go_at_call 83; (first | (with_reducible exact quiet_drewN (HM1 _)) | (with_reducible exact quiet_drewN (HM2 _)))))
  clear HM1 HM2 k1 k2 k3 hx hy HSM HX HY hW1 hb5
  obtain ⟨W2, hW2⟩ : ∃ W, Hid (W1.drewN nq = W) := ⟨_, Lib.hid rfl⟩
  rw [hW2.out]
  have HA2 : Hid (Bx W2 b5 #[.int .i64 v] 3) := Lib.hid (by rw [← hW2.out]; exact HA1.out)
  have HX2 : Hid (Bx W2 w.heap.size #[.slice A n c, .int .i64 z] 53) := Lib.hid (by rw [← hW2.out]; exact HX1.out)
  have HT2 : Hid (Bx W2 (w.heap.size + 1) #[.slice (some a1) n c1] 22) := Lib.hid (by rw [← hW2.out]; exact HT1.out)
  have HO2 : Hid (Bx W2 (w.heap.size + 1 + 1) #[.slice (some a2) n c2] 22) := Lib.hid (by rw [← hW2.out]; exact HO1.out)
  have HN2 : Hid (Bx W2 (w.heap.size + 1 + 1 + 1) #[.int .i64 n] 3) := Lib.hid (by rw [← hW2.out]; exact HN1.out)
  have HB2 : Hid (Below w.heap.size w W2) := Lib.hid (by rw [← hW2.out]; exact below_drewN HB1.out _)
  clear HA1 HX1 HT1 HO1 HN1 HB1 hW2
  obtain ⟨W3, hW3⟩ : ∃ W, Hid ((W2.alloc (.cells #[.func (.func 112) #[] #[.pointer (some ⟨b5, 0, none⟩), .pointer (some ⟨w.heap.size + 1 + 1 + 1, 0, none⟩)]] 124)) = W) := ⟨_, Lib.hid rfl⟩
  obtain ⟨b6, hb6⟩ : ∃ b, Hid (W2.heap.size = b) := ⟨_, Lib.hid rfl⟩
  have HQ3 : Hid (Bx W3 b6 #[.func (.func 112) #[] #[.pointer (some ⟨b5, 0, none⟩), .pointer (some ⟨w.heap.size + 1 + 1 + 1, 0, none⟩)]] 124) := Lib.hid (by rw [← hW3.out, ← hb6.out]; exact Bx.new _ _ _)
  have HA3 : Hid (Bx W3 (b5) #[.int .i64 v] 3) := Lib.hid (by rw [← hW3.out]; exact HA2.out.alloc _)
  have HX3 : Hid (Bx W3 (w.heap.size) #[.slice A n c, .int .i64 z] 53) := Lib.hid (by rw [← hW3.out]; exact HX2.out.alloc _)
  have HT3 : Hid (Bx W3 (w.heap.size + 1) #[.slice (some a1) n c1] 22) := Lib.hid (by rw [← hW3.out]; exact HT2.out.alloc _)
  have HO3 : Hid (Bx W3 (w.heap.size + 1 + 1) #[.slice (some a2) n c2] 22) := Lib.hid (by rw [← hW3.out]; exact HO2.out.alloc _)
  have HN3 : Hid (Bx W3 (w.heap.size + 1 + 1 + 1) #[.int .i64 n] 3) := Lib.hid (by rw [← hW3.out]; exact HN2.out.alloc _)
  have HB3 : Hid (Below w.heap.size w W3) := Lib.hid (by rw [← hW3.out]; exact HB2.out.alloc HB2.out.size _)
  have k0 : (W2.alloc (.cells #[.func (.func 112) #[] #[.pointer (some ⟨b5, 0, none⟩), .pointer (some ⟨w.heap.size + 1 + 1 + 1, 0, none⟩)]] 124)).cell? ⟨w.heap.size, 0, none⟩ = some (.slice A n c) := by rw [hW3.out]; exact HX3.out.cell 0
  clear HA2 HX2 HT2 HO2 HN2
  have hS : ∀ W (k : Nat), Below W3.heap.size W3 W → k < n → Calls Try.prog 113 (#[.int .i64 k] ++ #[.pointer (some ⟨w.heap.size + 1, 0, none⟩), .pointer (some ⟨b6, 0, none⟩)]) W fun e W' => ∃ b, e = .returned (.func (.func 138) #[] #[.pointer (some ⟨b, 0, none⟩)]) ∧ W'.cell? ⟨b, 0, none⟩ = some (.int .i64 (atT xs v n k)) ∧ Below W.heap.size W W' := fun W k hb hk =>
    i_masks2 k b5 (w.heap.size + 1 + 1 + 1) (w.heap.size + 1) b6 (some a1) n c1 xs v W ((hb.cell (p := ⟨b5, 0, none⟩) HA3.out.lt).trans (HA3.out.cell 0)) ((hb.cell (p := ⟨w.heap.size + 1 + 1 + 1, 0, none⟩) HN3.out.lt).trans (HN3.out.cell 0)) ((hb.cell (p := ⟨w.heap.size + 1, 0, none⟩) HT3.out.lt).trans (HT3.out.cell 0)) ((hb.cell (p := ⟨b6, 0, none⟩) HQ3.out.lt).trans (HQ3.out.cell 0))
      (Nat.lt_of_lt_of_le HA3.out.lt hb.size) (Nat.lt_of_lt_of_le HN3.out.lt hb.size) (Nat.lt_of_lt_of_le HT3.out.lt hb.size) (Nat.lt_of_lt_of_le HQ3.out.lt hb.size) ((((HR1.out.below HB3.out).more HB3.out.size).below hb).more hb.size) hk (by omega) v0 (by omega)
  have HS := Lib.hid hS
  clear hS
  go_wp2_with fail
  rw [hW3.out, hb6.out]
  clear k0 hW3 hb6 HB2
  refine (i_masked 113 138 _ (fun x y => x + y) (atT xs v n) A n c ds W3 ((HD.out.below HB3.out).more HB3.out.size) HNd.out (fun k => atT_bd HNx.out v n k) (by omega) eg_masks2 eg_putting1 HS.out (fun a m b W hc a0 a1 m0 m1 => i_puttingOn1 a m b W hc a0 a1 m0 m1)).mono ?_
  rintro e w5 ⟨A3, c3, rfl, ho, hb⟩
  have HA5 := Lib.hid (HA3.out.below hb HA3.out.lt)
  have HN5 := Lib.hid (HN3.out.below hb HN3.out.lt)
  have HO5 := Lib.hid (HO3.out.below hb HO3.out.lt)
  have HQ5 := Lib.hid (HQ3.out.below hb HQ3.out.lt)
  have HB5 : Hid (Below w.heap.size w w5) := Lib.hid (HB3.out.trans (hb.mono HB3.out.size))
  have HR5 : Hid (Rd w5 w5.heap.size 1 A3 n (cI (mapK (fun x y => x + y) ds (atT xs v n) n))) := Lib.hid (by
    obtain ⟨_, A', n', c', he, ho'⟩ := ho
    cases he
    exact ho'.rd)
  clear ho hb HA3 HX3 HT3 HO3 HN3 HQ3 HB3 HS
  have hS : ∀ W (k : Nat), Below w5.heap.size w5 W → k < n → Calls Try.prog 114 (#[.int .i64 k] ++ #[.pointer (some ⟨w.heap.size + 1 + 1, 0, none⟩), .pointer (some ⟨b6, 0, none⟩)]) W fun e W' => ∃ b, e = .returned (.func (.func 139) #[] #[.pointer (some ⟨b, 0, none⟩)]) ∧ W'.cell? ⟨b, 0, none⟩ = some (.int .i64 (atT ys v n k)) ∧ Below W.heap.size W W' := fun W k hb hk =>
    i_masks3 k b5 (w.heap.size + 1 + 1 + 1) (w.heap.size + 1 + 1) b6 (some a2) n c2 ys v W ((hb.cell (p := ⟨b5, 0, none⟩) HA5.out.lt).trans (HA5.out.cell 0)) ((hb.cell (p := ⟨w.heap.size + 1 + 1 + 1, 0, none⟩) HN5.out.lt).trans (HN5.out.cell 0)) ((hb.cell (p := ⟨w.heap.size + 1 + 1, 0, none⟩) HO5.out.lt).trans (HO5.out.cell 0)) ((hb.cell (p := ⟨b6, 0, none⟩) HQ5.out.lt).trans (HQ5.out.cell 0))
      (Nat.lt_of_lt_of_le HA5.out.lt hb.size) (Nat.lt_of_lt_of_le HN5.out.lt hb.size) (Nat.lt_of_lt_of_le HO5.out.lt hb.size) (Nat.lt_of_lt_of_le HQ5.out.lt hb.size) ((((HR2.out.below HB5.out).more HB5.out.size).below hb).more hb.size) hk (by omega) v0 (by omega)
  have HS := Lib.hid hS
  clear hS
  go_wp2_with fail
  refine (i_masked 114 139 _ (fun x y => x - y) (atT ys v n) A3 n c3 _ w5 HR5.out (mapK_nums _ _ _ _) (fun k => atT_bd HNy.out v n k) (by omega) eg_masks3 eg_taking1 HS.out (fun a m b W hc a0 a1 m0 m1 => i_takingOff1 a m b W hc a0 a1 m0 m1)).mono ?_
  rintro e w6 ⟨A4, c4, rfl, ho, hb⟩
  have HO : Hid (OwIntS w6 w.heap.size w6.heap.size (.slice A4 n c4) (R_ChoiceMasks_0 (ds, z) (k : Int) xs ys)) := Lib.hid (by rw [HE.out]; exact ho.widen HB5.out.size (Nat.le_refl _))
  have HB6 : Hid (Below w.heap.size w w6) := Lib.hid (HB5.out.trans (hb.mono HB5.out.size))
  clear ho hb
  go_wp2
  go_ret2
  exact ⟨_, ret_vb HF.out.symm, HO.out, HB6.out⟩
theorem X_i_ChoiceMasks (v v1 v2 : Value) (d : List Int × Int) (ch : Int) (xs ys : List Int) (w : World) (h : RdDeal w w.heap.size v d) (h1 : RdIntS w w.heap.size v1 xs) (h2 : RdIntS w w.heap.size v2 ys) (hs : szDeal d ≤ 1048576) (hs1 : szIntS xs ≤ 1048576) (hs2 : szIntS ys ≤ 1048576) :
    Calls Try.prog 63 #[v, .int .i64 ch, v1, v2] w fun e w' => ∃ g, e = .returned (.tuple #[g, .bool (R_ChoiceMasks_1 d ch xs ys)]) ∧ OwIntS w' w.heap.size w'.heap.size g (R_ChoiceMasks_0 d ch xs ys) ∧ Below w.heap.size w w' := by
  obtain ⟨A, n, c, rfl, B, k, q, hv, _, hr⟩ := h
  injection hv with e1 e2 e3
  subst e1 e2 e3
  obtain ⟨A1, n1, c1, rfl, _, r1⟩ := h1
  obtain ⟨A2, n2, c2, rfl, _, r2⟩ := h2
  have hl := hr.len
  exact i_ChoiceMasks A n c d.2 d.1 ch A1 n1 c1 xs A2 n2 c2 ys w hr (by unfold szDeal szIntS at hs; omega) r1 (by have := r1.len; unfold szIntS at hs1; omega) r2 (by have := r2.len; unfold szIntS at hs2; omega)
end Go.Proofs.Ythfkjaofgpgoeaa

/- Chapter 11: the model's ChoiceMasks. -/
namespace Go.Proofs.Ythfkjaofgpgoeaa
open Go.RowKit
set_option maxRecDepth 100000

theorem set_map {n : Nat} (f g : Nat → Int) {k : Nat} (h : ∀ j, j < n → j ≠ k → g j = f j) : ((List.range n).map f).set k (g k) = (List.range n).map g := by
  apply List.ext_getElem
  · simp
  · intro i h1 h2
    simp only [List.length_set, List.length_map, List.length_range] at h1
    rw [List.getElem_set]
    by_cases e : k = i
    · subst e; simp
    · rw [if_neg e]; simp [h i h1 (fun q => e q.symm)]
theorem mapK_map (op : Int → Int → Int) (xs : List Int) (ms : Nat → Int) (k : Nat) : mapK op xs ms k = (List.range k).map (mapE op xs ms) := by
  induction k with
  | zero => rfl
  | succ k ih => rw [mapK, ih, List.range_succ, List.map_append]; rfl
theorem mapK_at (op : Int → Int → Int) (xs : List Int) (ms : Nat → Int) {k n : Nat} (h : k < n) : (mapK op xs ms n).getD k 0 = mapE op xs ms k := by
  rw [mapK_map, List.getD_eq_getElem?_getD, List.getElem?_map, List.getElem?_range h]; rfl
theorem turn1 {n k v : Int} (hk : 0 ≤ k) (hn : k < n) : ((k + v) % n - v) % n = k := by
  have := Int.emod_add_emod (k + v) n (-v)
  rw [show (k + v) % n - v = (k + v) % n + -v by omega, this, show k + v + -v = k by omega, Int.emod_eq_of_lt hk hn]
theorem turn2 {n j v : Int} (hj : 0 ≤ j) (hn : j < n) : ((j - v) % n + v) % n = j := by
  rw [Int.emod_add_emod, show j - v + v = j by omega, Int.emod_eq_of_lt hj hn]
def valM (ds xs ys : List Int) (v : Int) (n : Nat) : Nat → Int := mapE (fun x y => x - y) (mapK (fun x y => x + y) ds (atT xs v n) n) (atT ys v n)
def turnL (ds xs ys : List Int) (v : Int) (n k : Nat) : List Int := (List.range n).map fun (j : Nat) => if ((j : Int) - v) % n < (k : Int) then valM ds xs ys v n j else 0
theorem turnL_zero (ds xs ys : List Int) (v : Int) (n : Nat) : turnL ds xs ys v n 0 = List.replicate n 0 := by
  rw [turnL]
  apply List.ext_getElem
  · simp
  · intro i h1 h2
    simp only [List.length_replicate] at h2
    have := Int.emod_nonneg ((i : Int) - v) (show (n : Int) ≠ 0 by omega)
    simp; omega
theorem turnL_all (ds xs ys : List Int) (v : Int) (n : Nat) : turnL ds xs ys v n n = mapK (fun x y => x - y) (mapK (fun x y => x + y) ds (atT xs v n) n) (atT ys v n) n := by
  rw [turnL, mapK_map _ _ (atT ys v n)]
  apply List.ext_getElem
  · simp
  · intro i h1 h2
    simp only [List.length_map, List.length_range] at h2
    have := Int.emod_lt_of_pos ((i : Int) - v) (show (0 : Int) < n by omega)
    simp only [List.getElem_map, List.getElem_range]
    rw [if_pos this]; rfl
theorem turnL_step (ds xs ys : List Int) (v : Int) {n k j : Nat} (hk : k < n) (hj : ((k : Int) + v) % n = (j : Int)) :
    (turnL ds xs ys v n k).set j ((ds.getD j 0 + (xs.getD k 0 - ys.getD k 0) % 113) % 113) = turnL ds xs ys v n (k + 1) := by
  have t1 := turn1 (n := n) (k := k) (v := v) (by omega) (by omega)
  rw [hj] at t1
  have jn : j < n := by have := Int.emod_lt_of_pos ((k : Int) + v) (show (0 : Int) < n by omega); omega
  have hv : (ds.getD j 0 + (xs.getD k 0 - ys.getD k 0) % 113) % 113 = (fun i : Nat => if ((i : Int) - v) % n < (k + 1 : Nat) then valM ds xs ys v n i else 0) j := by
    show _ = if ((j : Int) - v) % n < (k + 1 : Nat) then valM ds xs ys v n j else 0
    rw [t1, if_pos (by omega), valM, mapE, mapK_at _ _ _ jn, mapE, atT, atT, t1, Int.toNat_natCast]
    omega
  rw [hv, turnL]
  refine set_map (fun j : Nat => if ((j : Int) - v) % n < (k : Int) then valM ds xs ys v n j else 0) (fun i : Nat => if ((i : Int) - v) % n < ((k + 1 : Nat) : Int) then valM ds xs ys v n i else 0) (k := j) fun i hi hne => ?_
  show (if ((i : Int) - v) % n < ((k + 1 : Nat) : Int) then valM ds xs ys v n i else 0) = (if ((i : Int) - v) % n < (k : Int) then valM ds xs ys v n i else 0)
  have t2 := turn2 (n := n) (j := i) (v := v) (by omega) (by omega)
  have hne2 : ((i : Int) - v) % n ≠ k := fun q => hne (by rw [q, hj] at t2; omega)
  by_cases h : ((i : Int) - v) % n < (k : Int)
  · rw [if_pos h, if_pos (by omega)]
  · rw [if_neg h, if_neg (by omega)]
end Go.Proofs.Ythfkjaofgpgoeaa

/- Chapter 11: the model's ChoiceMasks, its walk. Made by tools/gen11/masks2.py. -/
namespace Go.Proofs.Ythfkjaofgpgoeaa
open Go.RowKit
set_option maxRecDepth 100000

theorem rd_of {s n : Nat} {A : Option Addr} {xs : List Value} {W1 W : World} (H : Rd W1 W1.heap.size s A n xs) (hb : Below W1.heap.size W1 W) : Rd W W.heap.size s A n xs := (H.below hb).more hb.size

set_option maxHeartbeats 8000000 in
theorem s_ChoiceMasks (A : Option Addr) (n c : Nat) (z : Int) (ds : List Int) (ch : Int) (A1 : Option Addr) (n1 c1 : Nat) (xs : List Int) (A2 : Option Addr) (n2 c2 : Nat) (ys : List Int) (w : World) (h : Rd w w.heap.size 1 A n (cI ds)) (hn : n ≤ 1048576) (h1 : Rd w w.heap.size 1 A1 n1 (cI xs)) (hn1 : n1 ≤ 1048576) (h2 : Rd w w.heap.size 1 A2 n2 (cI ys)) (hn2 : n2 ≤ 1048576) :
    Calls Try.prog 62 #[.agg #[.slice A n c, .int .i64 z], .int .i64 ch, .slice A1 n1 c1, .slice A2 n2 c2] w fun e w' => ∃ g, e = .returned (.tuple #[g, .bool (R_ChoiceMasks_1 (ds, z) ch xs ys)]) ∧ OwIntS w' w.heap.size w'.heap.size g (R_ChoiceMasks_0 (ds, z) ch xs ys) ∧ Below w.heap.size w w' := by
  have HL := Lib.hid h.len
  have HL1 := Lib.hid h1.len
  have HL2 := Lib.hid h2.len
  have HB0 : Hid (Below w.heap.size w (w.alloc (.cells #[.slice A n c, .int .i64 z] 53))) := Lib.hid ((Below.refl _ _).alloc (Nat.le_refl _) _)
  have HX0 : Hid (Bx (w.alloc (.cells #[.slice A n c, .int .i64 z] 53)) w.heap.size #[.slice A n c, .int .i64 z] 53) := Lib.hid (Bx.new _ _ _)
  have HD := Lib.hid h
  have HR1 := Lib.hid h1
  have HR2 := Lib.hid h2
  clear h h1 h2
  go_enter Try.func62, Try.ntmps62
  go_wp2_with fail
  refine (s_ChoiceAsk A n c z ds ch _ (rd_of HD.out HB0.out) hn).mono ?_
  rintro e w1 ⟨rfl, hb⟩
  have HX1 : Hid (Bx w1 w.heap.size #[.slice A n c, .int .i64 z] 53) := Lib.hid (HX0.out.below hb HX0.out.lt)
  have HB1 : Hid (Below w.heap.size w w1) := Lib.hid (HB0.out.trans (hb.mono HB0.out.size))
  have HD1 := Lib.hid (rd_of HD.out HB1.out)
  have HP1 := Lib.hid (rd_of HR1.out HB1.out)
  have HP2 := Lib.hid (rd_of HR2.out HB1.out)
  have HZ1 : Hid (w.heap.size < w1.heap.size) := Lib.hid HX1.out.lt
  clear hb HX0 HB0 HD HR1 HR2
  have c0 : w1.cell? ⟨w.heap.size, 0, none⟩ = some (.slice A n c) := HX1.out.cell 0
  have c1_ : w1.cell? ⟨w.heap.size, 1, none⟩ = some (.int .i64 z) := HX1.out.cell 1
  obtain ⟨v, hv⟩ : ∃ v, askV (ds, z) ch = v := ⟨_, rfl⟩
  have HV := Lib.hid hv
  rw [hv]
  clear hv
  cases e1 : askB (ds, z) ch
  · have HF : Hid (R_ChoiceMasks_1 (ds, z) ch xs ys = false) := Lib.hid (by simp [R_ChoiceMasks_1, e1])
    have HE : Hid (R_ChoiceMasks_0 (ds, z) ch xs ys = []) := Lib.hid (by simp [R_ChoiceMasks_0, HF.out])
    go_wp2
    go_quiet (fail)
    go_wp2
    go_ret2
    refine ⟨_, ret_vb HF.out.symm, ?_, below_drewN HB1.out _⟩
    rw [HE.out]; exact OwIntS.nil_ _ _ _
  have hd := e1
  simp only [askB, dealB, Bool.and_eq_true, inB_iff] at hd
  obtain ⟨⟨⟨n2_, n8⟩, hds, z0, z1⟩, q0, q1⟩ := hd
  have hvv : askV (ds, z) ch = (z - ch) % (n : Int) := by unfold askV; rw [if_pos e1, HL.out]
  rw [HL.out] at n2_ n8 z1 q1
  obtain ⟨v0, v1⟩ := emod_bd (z - ch) (show 0 < (n : Int) by omega)
  rw [← hvv, HV.out] at v0 v1
  have HE1 := Lib.hid e1
  have HNd := Lib.hid (nums_of_B hds)
  clear hvv hds e1
  have hb := Below.refl w1.heap.size w1
  cases e2 : thingsB (ds, z) xs
  · have HF : Hid (R_ChoiceMasks_1 (ds, z) ch xs ys = false) := Lib.hid (by simp only [R_ChoiceMasks_1, e2, Bool.false_and, Bool.and_false])
    have HE : Hid (R_ChoiceMasks_0 (ds, z) ch xs ys = []) := Lib.hid (by simp [R_ChoiceMasks_0, HF.out])
    go_wp2
    refine wp_region_held_drew (S := fun w' => w'.cell? ⟨w.heap.size, 0, none⟩ = some (.slice A n c) ∧ w'.cell? ⟨w.heap.size, 1, none⟩ = some (.int .i64 z)) (by kernel_rfl) ⟨HX1.out.cell 0, HX1.out.cell 1⟩ (fun hHeld => ?_)
    refine wpAnyH_take (i := 0) (oi := { dst := some 22, op := Op.move (Operand.tmp 11), type := 4, pos := "l11_choices.go:60", after := #[], guard := none }) (v := ?_) rfl (by kernel_rfl) (by kernel_rfl) (by kernel_rfl) (fun _ _ _ h => h) (Or.inl ⟨by rfl, ?_⟩) hHeld ?_
    rotate_left
    · intro w hSw; obtain ⟨s0, s1⟩ := hSw; (try dsimp only at hSw); go_simp; (try with_reducible rfl)
    try simp only [Act.put, List.setIfInBounds_toArray, List.set_cons_zero, List.set_cons_succ]
    refine wpAnyH_take (i := 1) (oi := { dst := some 23, op := Op.unOp UnOp.not 4 (Operand.tmp 22), type := 4, pos := "l11_choices.go:60", after := #[{ on := 0, ground := Ground.data }], guard := none }) (v := ?_) rfl (by kernel_rfl) (by kernel_rfl) (by kernel_rfl) (fun _ _ _ h => h) (Or.inl ⟨by rfl, ?_⟩) hHeld ?_
    rotate_left
    · intro w hSw; obtain ⟨s0, s1⟩ := hSw; (try dsimp only at hSw); go_simp; (try with_reducible rfl)
    try simp only [Act.put, List.setIfInBounds_toArray, List.set_cons_zero, List.set_cons_succ]
    refine wpAnyH_take (i := 2) (oi := { dst := some 24, op := Op.move (Operand.tmp 23), type := 4, pos := "l11_choices.go:60", after := #[{ on := 1, ground := Ground.data }], guard := none }) (v := ?_) rfl (by kernel_rfl) (by kernel_rfl) (by kernel_rfl) (fun _ _ _ h => h) (Or.inl ⟨by rfl, ?_⟩) hHeld ?_
    rotate_left
    · intro w hSw; obtain ⟨s0, s1⟩ := hSw; (try dsimp only at hSw); go_simp; (try with_reducible rfl)
    try simp only [Act.put, List.setIfInBounds_toArray, List.set_cons_zero, List.set_cons_succ]
    refine wpAnyH_take (i := 3) (oi := { dst := some 25, op := Op.load 53 (Operand.tmp 4), type := 53, pos := "l11_choices.go:60", after := #[{ on := 2, ground := Ground.guard }], guard := some (2, false) }) (v := ?_) rfl (by kernel_rfl) (by kernel_rfl) (by kernel_rfl) (fun _ _ _ h => h) (Or.inl ⟨by rfl, ?_⟩) hHeld ?_
    rotate_left
    · intro w hSw; obtain ⟨s0, s1⟩ := hSw; (try dsimp only at hSw); go_simp; (try with_reducible rfl)
    try simp only [Act.put, List.setIfInBounds_toArray, List.set_cons_zero, List.set_cons_succ]
    refine wpAnyH_take (i := 4) (oi := { dst := some 26, op := Op.move (Operand.tmp 2), type := 22, pos := "l11_choices.go:60", after := #[{ on := 2, ground := Ground.guard }], guard := some (2, false) }) (v := ?_) rfl (by kernel_rfl) (by kernel_rfl) (by kernel_rfl) (fun _ _ _ h => h) (Or.inl ⟨by rfl, ?_⟩) hHeld ?_
    rotate_left
    · intro w hSw; obtain ⟨s0, s1⟩ := hSw; (try dsimp only at hSw); go_simp; (try with_reducible rfl)
    try simp only [Act.put, List.setIfInBounds_toArray, List.set_cons_zero, List.set_cons_succ]
    refine wpAnyH_ready (rs := [5]) (by kernel_rfl) (by simp) ?_
    refine AllReadyH.cons (o := { dst := some 27, op := Op.call { callee := Callee.value (Operand.func 105), args := #[Operand.tmp 25, Operand.tmp 26], argTypes := #[53, 22] }, type := 4, pos := "l11_choices.go:60", after := #[{ on := 3, ground := Ground.data }, { on := 4, ground := Ground.data }, { on := 2, ground := Ground.chain }, { on := 2, ground := Ground.guard }], guard := some (2, false) }) rfl (fun K hK => ?_) ?_
    · go_simp
      refine (s_l11Things A n c z ds A1 n1 c1 xs w1.drew (rd_of HD1.out hb.drew) hn (rd_of HP1.out hb.drew) hn1).mono ?_
      rintro e w2 ⟨rfl, hb_⟩
      have hb2 : Below w1.heap.size w1 w2 := hb.drew.trans (hb_.mono hb.drew.size)
      have hx2 : Bx w2 w.heap.size #[.slice A n c, .int .i64 z] 53 := HX1.out.below hb2 HZ1.out
      have HB2 := Lib.hid (HB1.out.trans (hb2.mono HB1.out.size))
      clear hb_
      rw [e2]
      refine hK.out _ _ ⟨hx2.cell 0, hx2.cell 1⟩ (fun hHeld => ?_)
      clear hK K
      try simp only [Act.put, List.setIfInBounds_toArray, List.set_cons_zero, List.set_cons_succ]
      refine wpAnyH_take (i := 6) (oi := { dst := some 28, op := Op.unOp UnOp.not 4 (Operand.tmp 27), type := 4, pos := "l11_choices.go:60", after := #[{ on := 5, ground := Ground.data }, { on := 2, ground := Ground.guard }], guard := some (2, false) }) (v := ?_) rfl (by kernel_rfl) (by kernel_rfl) (by kernel_rfl) (fun _ _ _ h => h) (Or.inl ⟨by rfl, ?_⟩) hHeld ?_
      rotate_left
      · intro w hSw; obtain ⟨s0, s1⟩ := hSw; (try dsimp only at hSw); go_simp; (try with_reducible rfl)
      try simp only [Act.put, List.setIfInBounds_toArray, List.set_cons_zero, List.set_cons_succ]
      refine wpAnyH_take (i := 7) (oi := { dst := some 29, op := Op.pick (Operand.tmp 24) (Operand.const (Value.bool true)) (Operand.tmp 28), type := 4, pos := "l11_choices.go:60", after := #[{ on := 2, ground := Ground.data }, { on := 6, ground := Ground.data }], guard := none }) (v := ?_) rfl (by kernel_rfl) (by kernel_rfl) (by kernel_rfl) (fun _ _ _ h => h) (Or.inl ⟨by rfl, ?_⟩) hHeld ?_
      rotate_left
      · intro w hSw; obtain ⟨s0, s1⟩ := hSw; (try dsimp only at hSw); go_simp; (try with_reducible rfl)
      try simp only [Act.put, List.setIfInBounds_toArray, List.set_cons_zero, List.set_cons_succ]
      refine wpAnyH_take (i := 8) (oi := { dst := some 30, op := Op.move (Operand.tmp 29), type := 4, pos := "l11_choices.go:60", after := #[{ on := 7, ground := Ground.data }, { on := 5, ground := Ground.chain }], guard := none }) (v := ?_) rfl (by kernel_rfl) (by kernel_rfl) (by kernel_rfl) (fun _ _ _ h => h) (Or.inl ⟨by rfl, ?_⟩) hHeld ?_
      rotate_left
      · intro w hSw; obtain ⟨s0, s1⟩ := hSw; (try dsimp only at hSw); go_simp; (try with_reducible rfl)
      try simp only [Act.put, List.setIfInBounds_toArray, List.set_cons_zero, List.set_cons_succ]
      refine wpAnyH_take (i := 9) (oi := { dst := some 31, op := Op.load 53 (Operand.tmp 4), type := 53, pos := "l11_choices.go:60", after := #[{ on := 8, ground := Ground.guard }], guard := some (8, false) }) rfl (by kernel_rfl) (by kernel_rfl) (by kernel_rfl) (fun _ _ _ h => h) (Or.inr ⟨by rfl, rfl⟩) hHeld ?_
      try simp only [Act.put, List.setIfInBounds_toArray, List.set_cons_zero, List.set_cons_succ]
      refine wpAnyH_take (i := 10) (oi := { dst := some 32, op := Op.move (Operand.tmp 3), type := 22, pos := "l11_choices.go:60", after := #[{ on := 8, ground := Ground.guard }], guard := some (8, false) }) rfl (by kernel_rfl) (by kernel_rfl) (by kernel_rfl) (fun _ _ _ h => h) (Or.inr ⟨by rfl, rfl⟩) hHeld ?_
      try simp only [Act.put, List.setIfInBounds_toArray, List.set_cons_zero, List.set_cons_succ]
      refine wpAnyH_take (i := 11) (oi := { dst := some 33, op := Op.call { callee := Callee.value (Operand.func 105), args := #[Operand.tmp 31, Operand.tmp 32], argTypes := #[53, 22] }, type := 4, pos := "l11_choices.go:60", after := #[{ on := 9, ground := Ground.data }, { on := 10, ground := Ground.data }, { on := 8, ground := Ground.chain }, { on := 8, ground := Ground.guard }], guard := some (8, false) }) rfl (by kernel_rfl) (by kernel_rfl) (by kernel_rfl) (fun _ _ _ h => h) (Or.inr ⟨by rfl, rfl⟩) hHeld ?_
      try simp only [Act.put, List.setIfInBounds_toArray, List.set_cons_zero, List.set_cons_succ]
      refine wpAnyH_take (i := 12) (oi := { dst := some 34, op := Op.unOp UnOp.not 4 (Operand.tmp 33), type := 4, pos := "l11_choices.go:60", after := #[{ on := 11, ground := Ground.data }, { on := 8, ground := Ground.guard }], guard := some (8, false) }) rfl (by kernel_rfl) (by kernel_rfl) (by kernel_rfl) (fun _ _ _ h => h) (Or.inr ⟨by rfl, rfl⟩) hHeld ?_
      try simp only [Act.put, List.setIfInBounds_toArray, List.set_cons_zero, List.set_cons_succ]
      refine wpAnyH_take (i := 13) (oi := { dst := some 35, op := Op.pick (Operand.tmp 30) (Operand.const (Value.bool true)) (Operand.tmp 34), type := 4, pos := "l11_choices.go:60", after := #[{ on := 8, ground := Ground.data }, { on := 12, ground := Ground.data }], guard := none }) (v := ?_) rfl (by kernel_rfl) (by kernel_rfl) (by kernel_rfl) (fun _ _ _ h => h) (Or.inl ⟨by rfl, ?_⟩) hHeld ?_
      rotate_left
      · intro w hSw; obtain ⟨s0, s1⟩ := hSw; (try dsimp only at hSw); go_simp; (try with_reducible rfl)
      try simp only [Act.put, List.setIfInBounds_toArray, List.set_cons_zero, List.set_cons_succ]
      refine wpAnyH_take (i := 14) (oi := { dst := some 36, op := Op.move (Operand.tmp 35), type := 4, pos := "l11_choices.go:60", after := #[{ on := 13, ground := Ground.data }, { on := 11, ground := Ground.chain }], guard := none }) (v := ?_) rfl (by kernel_rfl) (by kernel_rfl) (by kernel_rfl) (fun _ _ _ h => h) (Or.inl ⟨by rfl, ?_⟩) hHeld ?_
      rotate_left
      · intro w hSw; obtain ⟨s0, s1⟩ := hSw; (try dsimp only at hSw); go_simp; (try with_reducible rfl)
      try simp only [Act.put, List.setIfInBounds_toArray, List.set_cons_zero, List.set_cons_succ]
      refine wpAnyH_take (i := 15) (oi := { dst := some 37, op := Op.move (Operand.tmp 2), type := 22, pos := "l11_choices.go:60", after := #[{ on := 14, ground := Ground.guard }], guard := some (14, false) }) rfl (by kernel_rfl) (by kernel_rfl) (by kernel_rfl) (fun _ _ _ h => h) (Or.inr ⟨by rfl, rfl⟩) hHeld ?_
      try simp only [Act.put, List.setIfInBounds_toArray, List.set_cons_zero, List.set_cons_succ]
      refine wpAnyH_take (i := 16) (oi := { dst := some 38, op := Op.move (Operand.tmp 1), type := 3, pos := "l11_choices.go:60", after := #[{ on := 14, ground := Ground.guard }], guard := some (14, false) }) rfl (by kernel_rfl) (by kernel_rfl) (by kernel_rfl) (fun _ _ _ h => h) (Or.inr ⟨by rfl, rfl⟩) hHeld ?_
      try simp only [Act.put, List.setIfInBounds_toArray, List.set_cons_zero, List.set_cons_succ]
      refine wpAnyH_take (i := 17) (oi := { dst := some 39, op := Op.indexAddr 22 (Operand.tmp 37) (Operand.tmp 38), type := 0, pos := "l11_choices.go:60", after := #[{ on := 15, ground := Ground.data }, { on := 16, ground := Ground.data }, { on := 14, ground := Ground.guard }], guard := some (14, false) }) rfl (by kernel_rfl) (by kernel_rfl) (by kernel_rfl) (fun _ _ _ h => h) (Or.inr ⟨by rfl, rfl⟩) hHeld ?_
      try simp only [Act.put, List.setIfInBounds_toArray, List.set_cons_zero, List.set_cons_succ]
      refine wpAnyH_take (i := 18) (oi := { dst := some 40, op := Op.load 3 (Operand.tmp 39), type := 3, pos := "l11_choices.go:60", after := #[{ on := 17, ground := Ground.data }, { on := 14, ground := Ground.guard }], guard := some (14, false) }) rfl (by kernel_rfl) (by kernel_rfl) (by kernel_rfl) (fun _ _ _ h => h) (Or.inr ⟨by rfl, rfl⟩) hHeld ?_
      try simp only [Act.put, List.setIfInBounds_toArray, List.set_cons_zero, List.set_cons_succ]
      refine wpAnyH_take (i := 19) (oi := { dst := some 41, op := Op.move (Operand.tmp 3), type := 22, pos := "l11_choices.go:60", after := #[{ on := 14, ground := Ground.guard }], guard := some (14, false) }) rfl (by kernel_rfl) (by kernel_rfl) (by kernel_rfl) (fun _ _ _ h => h) (Or.inr ⟨by rfl, rfl⟩) hHeld ?_
      try simp only [Act.put, List.setIfInBounds_toArray, List.set_cons_zero, List.set_cons_succ]
      refine wpAnyH_take (i := 20) (oi := { dst := some 42, op := Op.move (Operand.tmp 1), type := 3, pos := "l11_choices.go:60", after := #[{ on := 14, ground := Ground.guard }], guard := some (14, false) }) rfl (by kernel_rfl) (by kernel_rfl) (by kernel_rfl) (fun _ _ _ h => h) (Or.inr ⟨by rfl, rfl⟩) hHeld ?_
      try simp only [Act.put, List.setIfInBounds_toArray, List.set_cons_zero, List.set_cons_succ]
      refine wpAnyH_take (i := 21) (oi := { dst := some 43, op := Op.indexAddr 22 (Operand.tmp 41) (Operand.tmp 42), type := 0, pos := "l11_choices.go:60", after := #[{ on := 19, ground := Ground.data }, { on := 20, ground := Ground.data }, { on := 14, ground := Ground.guard }], guard := some (14, false) }) rfl (by kernel_rfl) (by kernel_rfl) (by kernel_rfl) (fun _ _ _ h => h) (Or.inr ⟨by rfl, rfl⟩) hHeld ?_
      try simp only [Act.put, List.setIfInBounds_toArray, List.set_cons_zero, List.set_cons_succ]
      refine wpAnyH_take (i := 22) (oi := { dst := some 44, op := Op.load 3 (Operand.tmp 43), type := 3, pos := "l11_choices.go:60", after := #[{ on := 21, ground := Ground.data }, { on := 14, ground := Ground.guard }], guard := some (14, false) }) rfl (by kernel_rfl) (by kernel_rfl) (by kernel_rfl) (fun _ _ _ h => h) (Or.inr ⟨by rfl, rfl⟩) hHeld ?_
      try simp only [Act.put, List.setIfInBounds_toArray, List.set_cons_zero, List.set_cons_succ]
      refine wpAnyH_take (i := 23) (oi := { dst := some 45, op := Op.binOp BinOp.neq 3 (Operand.tmp 40) (Operand.tmp 44) 3, type := 4, pos := "l11_choices.go:60", after := #[{ on := 18, ground := Ground.data }, { on := 22, ground := Ground.data }, { on := 14, ground := Ground.guard }], guard := some (14, false) }) rfl (by kernel_rfl) (by kernel_rfl) (by kernel_rfl) (fun _ _ _ h => h) (Or.inr ⟨by rfl, rfl⟩) hHeld ?_
      try simp only [Act.put, List.setIfInBounds_toArray, List.set_cons_zero, List.set_cons_succ]
      refine wpAnyH_take (i := 24) (oi := { dst := some 46, op := Op.pick (Operand.tmp 36) (Operand.const (Value.bool true)) (Operand.tmp 45), type := 4, pos := "l11_choices.go:60", after := #[{ on := 14, ground := Ground.data }, { on := 23, ground := Ground.data }], guard := none }) (v := ?_) rfl (by kernel_rfl) (by kernel_rfl) (by kernel_rfl) (fun _ _ _ h => h) (Or.inl ⟨by rfl, ?_⟩) hHeld ?_
      rotate_left
      · intro w hSw; obtain ⟨s0, s1⟩ := hSw; (try dsimp only at hSw); go_simp; (try with_reducible rfl)
      try simp only [Act.put, List.setIfInBounds_toArray, List.set_cons_zero, List.set_cons_succ]
      refine wpAnyH_done (by kernel_rfl) ?_ _
      clear hHeld
      go_wp2
      go_ret2
      refine ⟨_, ret_vb HF.out.symm, ?_, HB2.out⟩
      rw [HE.out]; exact OwIntS.nil_ _ _ _
    exact AllReadyH.nil
  cases e3 : thingsB (ds, z) ys
  · have HF : Hid (R_ChoiceMasks_1 (ds, z) ch xs ys = false) := Lib.hid (by simp only [R_ChoiceMasks_1, e3, Bool.false_and, Bool.and_false])
    have HE : Hid (R_ChoiceMasks_0 (ds, z) ch xs ys = []) := Lib.hid (by simp [R_ChoiceMasks_0, HF.out])
    go_wp2
    refine wp_region_held_drew (S := fun w' => w'.cell? ⟨w.heap.size, 0, none⟩ = some (.slice A n c) ∧ w'.cell? ⟨w.heap.size, 1, none⟩ = some (.int .i64 z)) (by kernel_rfl) ⟨HX1.out.cell 0, HX1.out.cell 1⟩ (fun hHeld => ?_)
    refine wpAnyH_take (i := 0) (oi := { dst := some 22, op := Op.move (Operand.tmp 11), type := 4, pos := "l11_choices.go:60", after := #[], guard := none }) (v := ?_) rfl (by kernel_rfl) (by kernel_rfl) (by kernel_rfl) (fun _ _ _ h => h) (Or.inl ⟨by rfl, ?_⟩) hHeld ?_
    rotate_left
    · intro w hSw; obtain ⟨s0, s1⟩ := hSw; (try dsimp only at hSw); go_simp; (try with_reducible rfl)
    try simp only [Act.put, List.setIfInBounds_toArray, List.set_cons_zero, List.set_cons_succ]
    refine wpAnyH_take (i := 1) (oi := { dst := some 23, op := Op.unOp UnOp.not 4 (Operand.tmp 22), type := 4, pos := "l11_choices.go:60", after := #[{ on := 0, ground := Ground.data }], guard := none }) (v := ?_) rfl (by kernel_rfl) (by kernel_rfl) (by kernel_rfl) (fun _ _ _ h => h) (Or.inl ⟨by rfl, ?_⟩) hHeld ?_
    rotate_left
    · intro w hSw; obtain ⟨s0, s1⟩ := hSw; (try dsimp only at hSw); go_simp; (try with_reducible rfl)
    try simp only [Act.put, List.setIfInBounds_toArray, List.set_cons_zero, List.set_cons_succ]
    refine wpAnyH_take (i := 2) (oi := { dst := some 24, op := Op.move (Operand.tmp 23), type := 4, pos := "l11_choices.go:60", after := #[{ on := 1, ground := Ground.data }], guard := none }) (v := ?_) rfl (by kernel_rfl) (by kernel_rfl) (by kernel_rfl) (fun _ _ _ h => h) (Or.inl ⟨by rfl, ?_⟩) hHeld ?_
    rotate_left
    · intro w hSw; obtain ⟨s0, s1⟩ := hSw; (try dsimp only at hSw); go_simp; (try with_reducible rfl)
    try simp only [Act.put, List.setIfInBounds_toArray, List.set_cons_zero, List.set_cons_succ]
    refine wpAnyH_take (i := 3) (oi := { dst := some 25, op := Op.load 53 (Operand.tmp 4), type := 53, pos := "l11_choices.go:60", after := #[{ on := 2, ground := Ground.guard }], guard := some (2, false) }) (v := ?_) rfl (by kernel_rfl) (by kernel_rfl) (by kernel_rfl) (fun _ _ _ h => h) (Or.inl ⟨by rfl, ?_⟩) hHeld ?_
    rotate_left
    · intro w hSw; obtain ⟨s0, s1⟩ := hSw; (try dsimp only at hSw); go_simp; (try with_reducible rfl)
    try simp only [Act.put, List.setIfInBounds_toArray, List.set_cons_zero, List.set_cons_succ]
    refine wpAnyH_take (i := 4) (oi := { dst := some 26, op := Op.move (Operand.tmp 2), type := 22, pos := "l11_choices.go:60", after := #[{ on := 2, ground := Ground.guard }], guard := some (2, false) }) (v := ?_) rfl (by kernel_rfl) (by kernel_rfl) (by kernel_rfl) (fun _ _ _ h => h) (Or.inl ⟨by rfl, ?_⟩) hHeld ?_
    rotate_left
    · intro w hSw; obtain ⟨s0, s1⟩ := hSw; (try dsimp only at hSw); go_simp; (try with_reducible rfl)
    try simp only [Act.put, List.setIfInBounds_toArray, List.set_cons_zero, List.set_cons_succ]
    refine wpAnyH_ready (rs := [5]) (by kernel_rfl) (by simp) ?_
    refine AllReadyH.cons (o := { dst := some 27, op := Op.call { callee := Callee.value (Operand.func 105), args := #[Operand.tmp 25, Operand.tmp 26], argTypes := #[53, 22] }, type := 4, pos := "l11_choices.go:60", after := #[{ on := 3, ground := Ground.data }, { on := 4, ground := Ground.data }, { on := 2, ground := Ground.chain }, { on := 2, ground := Ground.guard }], guard := some (2, false) }) rfl (fun K hK => ?_) ?_
    · go_simp
      refine (s_l11Things A n c z ds A1 n1 c1 xs w1.drew (rd_of HD1.out hb.drew) hn (rd_of HP1.out hb.drew) hn1).mono ?_
      rintro e w2 ⟨rfl, hb_⟩
      have hb2 : Below w1.heap.size w1 w2 := hb.drew.trans (hb_.mono hb.drew.size)
      have hx2 : Bx w2 w.heap.size #[.slice A n c, .int .i64 z] 53 := HX1.out.below hb2 HZ1.out
      have HB2 := Lib.hid (HB1.out.trans (hb2.mono HB1.out.size))
      clear hb_
      rw [e2]
      refine hK.out _ _ ⟨hx2.cell 0, hx2.cell 1⟩ (fun hHeld => ?_)
      clear hK K
      try simp only [Act.put, List.setIfInBounds_toArray, List.set_cons_zero, List.set_cons_succ]
      refine wpAnyH_take (i := 6) (oi := { dst := some 28, op := Op.unOp UnOp.not 4 (Operand.tmp 27), type := 4, pos := "l11_choices.go:60", after := #[{ on := 5, ground := Ground.data }, { on := 2, ground := Ground.guard }], guard := some (2, false) }) (v := ?_) rfl (by kernel_rfl) (by kernel_rfl) (by kernel_rfl) (fun _ _ _ h => h) (Or.inl ⟨by rfl, ?_⟩) hHeld ?_
      rotate_left
      · intro w hSw; obtain ⟨s0, s1⟩ := hSw; (try dsimp only at hSw); go_simp; (try with_reducible rfl)
      try simp only [Act.put, List.setIfInBounds_toArray, List.set_cons_zero, List.set_cons_succ]
      refine wpAnyH_take (i := 7) (oi := { dst := some 29, op := Op.pick (Operand.tmp 24) (Operand.const (Value.bool true)) (Operand.tmp 28), type := 4, pos := "l11_choices.go:60", after := #[{ on := 2, ground := Ground.data }, { on := 6, ground := Ground.data }], guard := none }) (v := ?_) rfl (by kernel_rfl) (by kernel_rfl) (by kernel_rfl) (fun _ _ _ h => h) (Or.inl ⟨by rfl, ?_⟩) hHeld ?_
      rotate_left
      · intro w hSw; obtain ⟨s0, s1⟩ := hSw; (try dsimp only at hSw); go_simp; (try with_reducible rfl)
      try simp only [Act.put, List.setIfInBounds_toArray, List.set_cons_zero, List.set_cons_succ]
      refine wpAnyH_take (i := 8) (oi := { dst := some 30, op := Op.move (Operand.tmp 29), type := 4, pos := "l11_choices.go:60", after := #[{ on := 7, ground := Ground.data }, { on := 5, ground := Ground.chain }], guard := none }) (v := ?_) rfl (by kernel_rfl) (by kernel_rfl) (by kernel_rfl) (fun _ _ _ h => h) (Or.inl ⟨by rfl, ?_⟩) hHeld ?_
      rotate_left
      · intro w hSw; obtain ⟨s0, s1⟩ := hSw; (try dsimp only at hSw); go_simp; (try with_reducible rfl)
      try simp only [Act.put, List.setIfInBounds_toArray, List.set_cons_zero, List.set_cons_succ]
      refine wpAnyH_take (i := 9) (oi := { dst := some 31, op := Op.load 53 (Operand.tmp 4), type := 53, pos := "l11_choices.go:60", after := #[{ on := 8, ground := Ground.guard }], guard := some (8, false) }) (v := ?_) rfl (by kernel_rfl) (by kernel_rfl) (by kernel_rfl) (fun _ _ _ h => h) (Or.inl ⟨by rfl, ?_⟩) hHeld ?_
      rotate_left
      · intro w hSw; obtain ⟨s0, s1⟩ := hSw; (try dsimp only at hSw); go_simp; (try with_reducible rfl)
      try simp only [Act.put, List.setIfInBounds_toArray, List.set_cons_zero, List.set_cons_succ]
      refine wpAnyH_take (i := 10) (oi := { dst := some 32, op := Op.move (Operand.tmp 3), type := 22, pos := "l11_choices.go:60", after := #[{ on := 8, ground := Ground.guard }], guard := some (8, false) }) (v := ?_) rfl (by kernel_rfl) (by kernel_rfl) (by kernel_rfl) (fun _ _ _ h => h) (Or.inl ⟨by rfl, ?_⟩) hHeld ?_
      rotate_left
      · intro w hSw; obtain ⟨s0, s1⟩ := hSw; (try dsimp only at hSw); go_simp; (try with_reducible rfl)
      try simp only [Act.put, List.setIfInBounds_toArray, List.set_cons_zero, List.set_cons_succ]
      refine wpAnyH_ready (rs := [11]) (by kernel_rfl) (by simp) ?_
      refine AllReadyH.cons (o := { dst := some 33, op := Op.call { callee := Callee.value (Operand.func 105), args := #[Operand.tmp 31, Operand.tmp 32], argTypes := #[53, 22] }, type := 4, pos := "l11_choices.go:60", after := #[{ on := 9, ground := Ground.data }, { on := 10, ground := Ground.data }, { on := 8, ground := Ground.chain }, { on := 8, ground := Ground.guard }], guard := some (8, false) }) rfl (fun K hK => ?_) ?_
      · go_simp
        refine (s_l11Things A n c z ds A2 n2 c2 ys w2 (rd_of HD1.out hb2) hn (rd_of HP2.out hb2) hn2).mono ?_
        rintro e w3 ⟨rfl, hb_⟩
        have hb3 : Below w1.heap.size w1 w3 := hb2.trans (hb_.mono hb2.size)
        have hx3 : Bx w3 w.heap.size #[.slice A n c, .int .i64 z] 53 := HX1.out.below hb3 HZ1.out
        clear HB2
        have HB2 := Lib.hid (HB1.out.trans (hb3.mono HB1.out.size))
        clear hb_
        rw [e3]
        refine hK.out _ _ ⟨hx3.cell 0, hx3.cell 1⟩ (fun hHeld => ?_)
        clear hK K
        try simp only [Act.put, List.setIfInBounds_toArray, List.set_cons_zero, List.set_cons_succ]
        refine wpAnyH_take (i := 12) (oi := { dst := some 34, op := Op.unOp UnOp.not 4 (Operand.tmp 33), type := 4, pos := "l11_choices.go:60", after := #[{ on := 11, ground := Ground.data }, { on := 8, ground := Ground.guard }], guard := some (8, false) }) (v := ?_) rfl (by kernel_rfl) (by kernel_rfl) (by kernel_rfl) (fun _ _ _ h => h) (Or.inl ⟨by rfl, ?_⟩) hHeld ?_
        rotate_left
        · intro w hSw; obtain ⟨s0, s1⟩ := hSw; (try dsimp only at hSw); go_simp; (try with_reducible rfl)
        try simp only [Act.put, List.setIfInBounds_toArray, List.set_cons_zero, List.set_cons_succ]
        refine wpAnyH_take (i := 13) (oi := { dst := some 35, op := Op.pick (Operand.tmp 30) (Operand.const (Value.bool true)) (Operand.tmp 34), type := 4, pos := "l11_choices.go:60", after := #[{ on := 8, ground := Ground.data }, { on := 12, ground := Ground.data }], guard := none }) (v := ?_) rfl (by kernel_rfl) (by kernel_rfl) (by kernel_rfl) (fun _ _ _ h => h) (Or.inl ⟨by rfl, ?_⟩) hHeld ?_
        rotate_left
        · intro w hSw; obtain ⟨s0, s1⟩ := hSw; (try dsimp only at hSw); go_simp; (try with_reducible rfl)
        try simp only [Act.put, List.setIfInBounds_toArray, List.set_cons_zero, List.set_cons_succ]
        refine wpAnyH_take (i := 14) (oi := { dst := some 36, op := Op.move (Operand.tmp 35), type := 4, pos := "l11_choices.go:60", after := #[{ on := 13, ground := Ground.data }, { on := 11, ground := Ground.chain }], guard := none }) (v := ?_) rfl (by kernel_rfl) (by kernel_rfl) (by kernel_rfl) (fun _ _ _ h => h) (Or.inl ⟨by rfl, ?_⟩) hHeld ?_
        rotate_left
        · intro w hSw; obtain ⟨s0, s1⟩ := hSw; (try dsimp only at hSw); go_simp; (try with_reducible rfl)
        try simp only [Act.put, List.setIfInBounds_toArray, List.set_cons_zero, List.set_cons_succ]
        refine wpAnyH_take (i := 15) (oi := { dst := some 37, op := Op.move (Operand.tmp 2), type := 22, pos := "l11_choices.go:60", after := #[{ on := 14, ground := Ground.guard }], guard := some (14, false) }) rfl (by kernel_rfl) (by kernel_rfl) (by kernel_rfl) (fun _ _ _ h => h) (Or.inr ⟨by rfl, rfl⟩) hHeld ?_
        try simp only [Act.put, List.setIfInBounds_toArray, List.set_cons_zero, List.set_cons_succ]
        refine wpAnyH_take (i := 16) (oi := { dst := some 38, op := Op.move (Operand.tmp 1), type := 3, pos := "l11_choices.go:60", after := #[{ on := 14, ground := Ground.guard }], guard := some (14, false) }) rfl (by kernel_rfl) (by kernel_rfl) (by kernel_rfl) (fun _ _ _ h => h) (Or.inr ⟨by rfl, rfl⟩) hHeld ?_
        try simp only [Act.put, List.setIfInBounds_toArray, List.set_cons_zero, List.set_cons_succ]
        refine wpAnyH_take (i := 17) (oi := { dst := some 39, op := Op.indexAddr 22 (Operand.tmp 37) (Operand.tmp 38), type := 0, pos := "l11_choices.go:60", after := #[{ on := 15, ground := Ground.data }, { on := 16, ground := Ground.data }, { on := 14, ground := Ground.guard }], guard := some (14, false) }) rfl (by kernel_rfl) (by kernel_rfl) (by kernel_rfl) (fun _ _ _ h => h) (Or.inr ⟨by rfl, rfl⟩) hHeld ?_
        try simp only [Act.put, List.setIfInBounds_toArray, List.set_cons_zero, List.set_cons_succ]
        refine wpAnyH_take (i := 18) (oi := { dst := some 40, op := Op.load 3 (Operand.tmp 39), type := 3, pos := "l11_choices.go:60", after := #[{ on := 17, ground := Ground.data }, { on := 14, ground := Ground.guard }], guard := some (14, false) }) rfl (by kernel_rfl) (by kernel_rfl) (by kernel_rfl) (fun _ _ _ h => h) (Or.inr ⟨by rfl, rfl⟩) hHeld ?_
        try simp only [Act.put, List.setIfInBounds_toArray, List.set_cons_zero, List.set_cons_succ]
        refine wpAnyH_take (i := 19) (oi := { dst := some 41, op := Op.move (Operand.tmp 3), type := 22, pos := "l11_choices.go:60", after := #[{ on := 14, ground := Ground.guard }], guard := some (14, false) }) rfl (by kernel_rfl) (by kernel_rfl) (by kernel_rfl) (fun _ _ _ h => h) (Or.inr ⟨by rfl, rfl⟩) hHeld ?_
        try simp only [Act.put, List.setIfInBounds_toArray, List.set_cons_zero, List.set_cons_succ]
        refine wpAnyH_take (i := 20) (oi := { dst := some 42, op := Op.move (Operand.tmp 1), type := 3, pos := "l11_choices.go:60", after := #[{ on := 14, ground := Ground.guard }], guard := some (14, false) }) rfl (by kernel_rfl) (by kernel_rfl) (by kernel_rfl) (fun _ _ _ h => h) (Or.inr ⟨by rfl, rfl⟩) hHeld ?_
        try simp only [Act.put, List.setIfInBounds_toArray, List.set_cons_zero, List.set_cons_succ]
        refine wpAnyH_take (i := 21) (oi := { dst := some 43, op := Op.indexAddr 22 (Operand.tmp 41) (Operand.tmp 42), type := 0, pos := "l11_choices.go:60", after := #[{ on := 19, ground := Ground.data }, { on := 20, ground := Ground.data }, { on := 14, ground := Ground.guard }], guard := some (14, false) }) rfl (by kernel_rfl) (by kernel_rfl) (by kernel_rfl) (fun _ _ _ h => h) (Or.inr ⟨by rfl, rfl⟩) hHeld ?_
        try simp only [Act.put, List.setIfInBounds_toArray, List.set_cons_zero, List.set_cons_succ]
        refine wpAnyH_take (i := 22) (oi := { dst := some 44, op := Op.load 3 (Operand.tmp 43), type := 3, pos := "l11_choices.go:60", after := #[{ on := 21, ground := Ground.data }, { on := 14, ground := Ground.guard }], guard := some (14, false) }) rfl (by kernel_rfl) (by kernel_rfl) (by kernel_rfl) (fun _ _ _ h => h) (Or.inr ⟨by rfl, rfl⟩) hHeld ?_
        try simp only [Act.put, List.setIfInBounds_toArray, List.set_cons_zero, List.set_cons_succ]
        refine wpAnyH_take (i := 23) (oi := { dst := some 45, op := Op.binOp BinOp.neq 3 (Operand.tmp 40) (Operand.tmp 44) 3, type := 4, pos := "l11_choices.go:60", after := #[{ on := 18, ground := Ground.data }, { on := 22, ground := Ground.data }, { on := 14, ground := Ground.guard }], guard := some (14, false) }) rfl (by kernel_rfl) (by kernel_rfl) (by kernel_rfl) (fun _ _ _ h => h) (Or.inr ⟨by rfl, rfl⟩) hHeld ?_
        try simp only [Act.put, List.setIfInBounds_toArray, List.set_cons_zero, List.set_cons_succ]
        refine wpAnyH_take (i := 24) (oi := { dst := some 46, op := Op.pick (Operand.tmp 36) (Operand.const (Value.bool true)) (Operand.tmp 45), type := 4, pos := "l11_choices.go:60", after := #[{ on := 14, ground := Ground.data }, { on := 23, ground := Ground.data }], guard := none }) (v := ?_) rfl (by kernel_rfl) (by kernel_rfl) (by kernel_rfl) (fun _ _ _ h => h) (Or.inl ⟨by rfl, ?_⟩) hHeld ?_
        rotate_left
        · intro w hSw; obtain ⟨s0, s1⟩ := hSw; (try dsimp only at hSw); go_simp; (try with_reducible rfl)
        try simp only [Act.put, List.setIfInBounds_toArray, List.set_cons_zero, List.set_cons_succ]
        refine wpAnyH_done (by kernel_rfl) ?_ _
        clear hHeld
        go_wp2
        go_ret2
        refine ⟨_, ret_vb HF.out.symm, ?_, HB2.out⟩
        rw [HE.out]; exact OwIntS.nil_ _ _ _
      exact AllReadyH.nil
    exact AllReadyH.nil
  have hd2 := e2
  have hd3 := e3
  simp only [thingsB, Bool.and_eq_true, decide_eq_true_eq] at hd2 hd3
  obtain ⟨_, hn1_, hxs⟩ := hd2
  obtain ⟨_, hn2_, hys⟩ := hd3
  rw [HL.out, HL1.out] at hn1_
  rw [HL.out, HL2.out] at hn2_
  have HNx := Lib.hid (nums_of_B hxs)
  have HNy := Lib.hid (nums_of_B hys)
  clear hxs hys
  obtain rfl : n = n1 := by omega
  obtain rfl : n = n2 := by omega
  clear hn1_ hn2_
  obtain ⟨k, hk⟩ : ∃ k : Nat, ch = (k : Int) := ⟨ch.toNat, by omega⟩
  subst hk
  have hkn : k < n := by omega
  obtain ⟨a1, x, rfl, ab1, hx, HX⟩ := HP1.out.intAt hkn
  obtain ⟨a2, y, rfl, ab2, hy, HY⟩ := HP2.out.intAt hkn
  have i1 : (k : Int) < (n : Int) := by omega
  have HSM : Hid (sameB xs ys (k : Int) = decide (x = y)) := Lib.hid (by rw [sameB, Int.toNat_natCast, ← HX.out, ← HY.out])
  by_cases hxy : x = y
  case neg =>
    have q : (x == y) = false := by rw [beq_eq_false_iff_ne]; exact hxy
    have HF : Hid (R_ChoiceMasks_1 (ds, z) (k : Int) xs ys = false) := Lib.hid (by simp [R_ChoiceMasks_1, HSM.out, hxy])
    have HE : Hid (R_ChoiceMasks_0 (ds, z) (k : Int) xs ys = []) := Lib.hid (by simp [R_ChoiceMasks_0, HF.out])
    go_wp2
    have H_c0 := Lib.hid c0
    have H_c1_ := Lib.hid c1_
    have H_hx := Lib.hid hx
    have H_hy := Lib.hid hy
    have stq0 : True := trivial
    go_region_held3 (fun w' => Below w1.heap.size w1 w' ∧ w'.cell? ⟨w.heap.size, 0, none⟩ = some (.slice A n c) ∧ w'.cell? ⟨w.heap.size, 1, none⟩ = some (.int .i64 z) ∧ w'.cell? (a1.add k) = some (.int .i64 x) ∧ w'.cell? (a2.add k) = some (.int .i64 y))
      (first | exact ⟨hb, c0, c1_, hx, hy⟩ | exact ⟨hb.drew, c0, c1_, hx, hy⟩)
      (first
        | (have stq1 := stq0
           clear stq0
           go_at_call 105
           refine (s_l11Things A n c z ds (some a1) n c1 xs _ (by first | exact rd_of HD1.out hb | exact rd_of HD1.out hb.drew) hn (by first | exact rd_of HP1.out hb | exact rd_of HP1.out hb.drew) hn1).mono ?_
           rintro e w2 ⟨rfl, hb_⟩
           rw [e2]
           replace hb : Below w1.heap.size w1 w2 := (by first | exact hb.trans (hb_.mono hb.size) | exact hb.drew.trans (hb_.mono hb.drew.size))
           have hz_ := HZ1.out
           replace c0 : w2.cell? ⟨w.heap.size, 0, none⟩ = some (.slice A n c) := (hb.cell (p := ⟨w.heap.size, 0, none⟩) (by first | exact hz_ | (rw [add_block]; assumption))).trans H_c0.out
           replace c1_ : w2.cell? ⟨w.heap.size, 1, none⟩ = some (.int .i64 z) := (hb.cell (p := ⟨w.heap.size, 1, none⟩) (by first | exact hz_ | (rw [add_block]; assumption))).trans H_c1_.out
           replace hx : w2.cell? (a1.add k) = some (.int .i64 x) := (hb.cell (p := (a1.add k)) (by first | exact hz_ | (rw [add_block]; assumption))).trans H_hx.out
           replace hy : w2.cell? (a2.add k) = some (.int .i64 y) := (hb.cell (p := (a2.add k)) (by first | exact hz_ | (rw [add_block]; assumption))).trans H_hy.out
           clear hb_ hz_)
        | (have stq2 := stq1
           clear stq1
           go_at_call 105
           refine (s_l11Things A n c z ds (some a2) n c2 ys _ (by first | exact rd_of HD1.out hb | exact rd_of HD1.out hb.drew) hn (by first | exact rd_of HP2.out hb | exact rd_of HP2.out hb.drew) hn2).mono ?_
           rintro e w3 ⟨rfl, hb_⟩
           rw [e3]
           replace hb : Below w1.heap.size w1 w3 := (by first | exact hb.trans (hb_.mono hb.size) | exact hb.drew.trans (hb_.mono hb.drew.size))
           have hz_ := HZ1.out
           replace c0 : w3.cell? ⟨w.heap.size, 0, none⟩ = some (.slice A n c) := (hb.cell (p := ⟨w.heap.size, 0, none⟩) (by first | exact hz_ | (rw [add_block]; assumption))).trans H_c0.out
           replace c1_ : w3.cell? ⟨w.heap.size, 1, none⟩ = some (.int .i64 z) := (hb.cell (p := ⟨w.heap.size, 1, none⟩) (by first | exact hz_ | (rw [add_block]; assumption))).trans H_c1_.out
           replace hx : w3.cell? (a1.add k) = some (.int .i64 x) := (hb.cell (p := (a1.add k)) (by first | exact hz_ | (rw [add_block]; assumption))).trans H_hx.out
           replace hy : w3.cell? (a2.add k) = some (.int .i64 y) := (hb.cell (p := (a2.add k)) (by first | exact hz_ | (rw [add_block]; assumption))).trans H_hy.out
           clear hb_ hz_))
    have HB2 : Hid (Below w.heap.size w _) := Lib.hid (HB1.out.trans (hb.mono HB1.out.size))
    clear hb
    go_wp2
    go_ret2
    refine ⟨_, ret_vb HF.out.symm, ?_, HB2.out⟩
    rw [HE.out]; exact OwIntS.nil_ _ _ _
  subst hxy
  have HF : Hid (R_ChoiceMasks_1 (ds, z) (k : Int) xs ys = true) := Lib.hid (by simp [R_ChoiceMasks_1, HE1.out, e2, e3, HSM.out])
  have HE : Hid (R_ChoiceMasks_0 (ds, z) (k : Int) xs ys = turnL ds xs ys v n n) := Lib.hid (by rw [R_ChoiceMasks_0, if_pos HF.out, HV.out, HL.out, turnL_all])
  go_wp2
  have H_c0 := Lib.hid c0
  have H_c1_ := Lib.hid c1_
  have H_hx := Lib.hid hx
  have H_hy := Lib.hid hy
  have stq0 : True := trivial
  go_region_held3 (fun w' => Below w1.heap.size w1 w' ∧ w'.cell? ⟨w.heap.size, 0, none⟩ = some (.slice A n c) ∧ w'.cell? ⟨w.heap.size, 1, none⟩ = some (.int .i64 z) ∧ w'.cell? (a1.add k) = some (.int .i64 x) ∧ w'.cell? (a2.add k) = some (.int .i64 x))
    (first | exact ⟨hb, c0, c1_, hx, hy⟩ | exact ⟨hb.drew, c0, c1_, hx, hy⟩)
    (first
      | (have stq1 := stq0
         clear stq0
         go_at_call 105
         refine (s_l11Things A n c z ds (some a1) n c1 xs _ (by first | exact rd_of HD1.out hb | exact rd_of HD1.out hb.drew) hn (by first | exact rd_of HP1.out hb | exact rd_of HP1.out hb.drew) hn1).mono ?_
         rintro e w2 ⟨rfl, hb_⟩
         rw [e2]
         replace hb : Below w1.heap.size w1 w2 := (by first | exact hb.trans (hb_.mono hb.size) | exact hb.drew.trans (hb_.mono hb.drew.size))
         have hz_ := HZ1.out
         replace c0 : w2.cell? ⟨w.heap.size, 0, none⟩ = some (.slice A n c) := (hb.cell (p := ⟨w.heap.size, 0, none⟩) (by first | exact hz_ | (rw [add_block]; assumption))).trans H_c0.out
         replace c1_ : w2.cell? ⟨w.heap.size, 1, none⟩ = some (.int .i64 z) := (hb.cell (p := ⟨w.heap.size, 1, none⟩) (by first | exact hz_ | (rw [add_block]; assumption))).trans H_c1_.out
         replace hx : w2.cell? (a1.add k) = some (.int .i64 x) := (hb.cell (p := (a1.add k)) (by first | exact hz_ | (rw [add_block]; assumption))).trans H_hx.out
         replace hy : w2.cell? (a2.add k) = some (.int .i64 x) := (hb.cell (p := (a2.add k)) (by first | exact hz_ | (rw [add_block]; assumption))).trans H_hy.out
         clear hb_ hz_)
      | (have stq2 := stq1
         clear stq1
         go_at_call 105
         refine (s_l11Things A n c z ds (some a2) n c2 ys _ (by first | exact rd_of HD1.out hb | exact rd_of HD1.out hb.drew) hn (by first | exact rd_of HP2.out hb | exact rd_of HP2.out hb.drew) hn2).mono ?_
         rintro e w3 ⟨rfl, hb_⟩
         rw [e3]
         replace hb : Below w1.heap.size w1 w3 := (by first | exact hb.trans (hb_.mono hb.size) | exact hb.drew.trans (hb_.mono hb.drew.size))
         have hz_ := HZ1.out
         replace c0 : w3.cell? ⟨w.heap.size, 0, none⟩ = some (.slice A n c) := (hb.cell (p := ⟨w.heap.size, 0, none⟩) (by first | exact hz_ | (rw [add_block]; assumption))).trans H_c0.out
         replace c1_ : w3.cell? ⟨w.heap.size, 1, none⟩ = some (.int .i64 z) := (hb.cell (p := ⟨w.heap.size, 1, none⟩) (by first | exact hz_ | (rw [add_block]; assumption))).trans H_c1_.out
         replace hx : w3.cell? (a1.add k) = some (.int .i64 x) := (hb.cell (p := (a1.add k)) (by first | exact hz_ | (rw [add_block]; assumption))).trans H_hx.out
         replace hy : w3.cell? (a2.add k) = some (.int .i64 x) := (hb.cell (p := (a2.add k)) (by first | exact hz_ | (rw [add_block]; assumption))).trans H_hy.out
         clear hb_ hz_))
  have HB3 : Hid (Below w.heap.size w w3) := Lib.hid (HB1.out.trans (hb.mono HB1.out.size))
  have HD3 := Lib.hid (rd_of HD1.out hb)
  have HP3 := Lib.hid (rd_of HP1.out hb)
  have HQ3 := Lib.hid (rd_of HP2.out hb)
  have HX3 : Hid (Bx w3 w.heap.size #[.slice A n c, .int .i64 z] 53) := Lib.hid (HX1.out.below hb HZ1.out)
  clear hb c0 c1_ hx hy e2 e3 HD1 HP1 HP2 HX1 HB1 HZ1 HX HY HSM H_c0 H_c1_ H_hx H_hy
  have hmk := fun W => run_make1 (P := Try.prog) Try.underlying22 info_int rfl n (by omega) (by omega) W
  have HO0 : Hid (Ow (w3.alloc (.cells (Array.replicate n (.int .i64 0)) 3)) w3.heap.size (w3.heap.size + 1) 3 1 (some ⟨w3.heap.size, 0, none⟩) n n (cI (turnL ds xs ys v n 0))) := Lib.hid (by
    have := Ow.zeros w3 (.int .i64 0) 3 n
    rw [turnL_zero]; rw [cI_zeros] at this; exact this)
  have HC0 : Hid (Below w3.heap.size w3 (w3.alloc (.cells (Array.replicate n (.int .i64 0)) 3))) := Lib.hid ((Below.refl _ _).alloc (Nat.le_refl _) _)
  have HZ0 : Hid (w3.heap.size < (w3.alloc (.cells (Array.replicate n (.int .i64 0)) 3)).heap.size) := Lib.hid (by simp)
  go_wp2
  go_loopw [14] (fun i wr => ∃ m : Nat, m ≤ n ∧ i = .int .i64 m ∧ Hid (Ow wr w3.heap.size (w3.heap.size + 1) 3 1 (some ⟨w3.heap.size, 0, none⟩) n n (cI (turnL ds xs ys v n m))) ∧ Hid (Below w3.heap.size w3 wr) ∧ Hid (w3.heap.size < wr.heap.size)) (fun i _ => n - (intOf i).toNat)
  case atStart => exact ⟨0, Nat.zero_le _, rfl, HO0, HC0, HZ0⟩
  case round =>
    clear HO0 HC0 HZ0
    obtain ⟨m, hm, rfl, HO, HC, HZ⟩ := hrel
    by_cases hlt : m < n
    · obtain ⟨bd0, bd1⟩ := emod_bd ((m : Int) + v) (show 0 < (n : Int) by omega)
      obtain ⟨j, hj⟩ : ∃ j : Nat, ((m : Int) + v) % n = (j : Int) := ⟨(((m : Int) + v) % n).toNat, by omega⟩
      have hjn : j < n := by omega
      obtain ⟨a, g, rfl, ab, hg0, HG⟩ := HD3.out.intAt hjn
      obtain ⟨b1, x, hb1, bb1, hx0, HX⟩ := HP3.out.intAt hlt
      obtain ⟨b2, y, hb2, bb2, hy0, HY⟩ := HQ3.out.intAt hlt
      cases hb1
      cases hb2
      have hg := (HC.out.cell (p := a.add j) (by rw [add_block]; exact ab)).trans hg0
      have hx := (HC.out.cell (p := a1.add m) (by rw [add_block]; exact bb1)).trans hx0
      have hy := (HC.out.cell (p := a2.add m) (by rw [add_block]; exact bb2)).trans hy0
      have hc := (HC.out.cell (p := ⟨w.heap.size, 0, none⟩) HX3.out.lt).trans (HX3.out.cell 0)
      replace hc : wr.cell? ⟨w.heap.size, 0, none⟩ = some (.slice (some a) n c) := hc
      have g0 : 0 ≤ g := by rw [HG.out]; exact (HNd.out j).1
      have g1 : g ≤ 112 := by rw [HG.out]; exact (HNd.out j).2
      have x0 : 0 ≤ x := by rw [HX.out]; exact (HNx.out m).1
      have x1 : x ≤ 112 := by rw [HX.out]; exact (HNx.out m).2
      have y0 : 0 ≤ y := by rw [HY.out]; exact (HNy.out m).1
      have y1 : y ≤ 112 := by rw [HY.out]; exact (HNy.out m).2
      have HS : Hid ((turnL ds xs ys v n m).set j ((g + (x - y) % 113) % 113) = turnL ds xs ys v n (m + 1)) := Lib.hid (by rw [HG.out, HX.out, HY.out]; exact turnL_step ds xs ys v hlt hj)
      obtain ⟨u, hu⟩ : ∃ u, (x - y) % 113 = u := ⟨_, rfl⟩
      have u0 : 0 ≤ u := by omega
      have u1 : u ≤ 112 := by omega
      have HU := Lib.hid hu
      rw [hu] at HS
      obtain ⟨r, hr⟩ : ∃ r, (g + u) % 113 = r := ⟨_, rfl⟩
      rw [hr] at HS
      have i0 : (0 : Int) ≤ (m : Int) := by omega
      have i1 : (m : Int) < (n : Int) := by omega
      have j0 : (0 : Int) ≤ (j : Int) := by omega
      have j1 : (j : Int) < (n : Int) := by omega
      have p0 : ¬ (n : Int) = 0 := by omega
      have p4 : ¬ n = 0 := by omega
      have p1 : IntKind.i64.wrap ((m : Int) + v) = (m : Int) + v := IntWalk.i64_in _ (by omega)
      have p2 : ((m : Int) + v).tmod n = (j : Int) := by rw [Int.tmod_eq_emod_of_nonneg (by omega)]; exact hj
      have p3 : IntKind.i64.wrap (j : Int) = (j : Int) := IntWalk.i64_in _ (by omega)
      have p5 : IntKind.i64.wrap (g + u) = g + u := IntWalk.i64_in _ (by omega)
      have p6 : (g + u).tmod 113 = r := by rw [Int.tmod_eq_emod_of_nonneg (by omega)]; exact hr
      have p7 : IntKind.i64.wrap r = r := IntWalk.i64_in _ (by omega)
      obtain ⟨y_, hv0⟩ : ∃ y_, wr.cell? ⟨w3.heap.size, j, none⟩ = some y_ := ⟨_, HO.out.cellAt (List.getElem?_eq_getElem (by have := HO.out.1; omega))⟩
      have hf := HO.out.free (by omega) j
      have HO2 := Lib.hid (HO.out.set j (.int .i64 r))
      rw [cI_set, HS.out] at HO2
      have HC2 := Lib.hid (HC.out.setCell (p := ⟨w3.heap.size, j, none⟩) (Nat.le_refl _) (.int .i64 r))
      have HZ2 : Hid (w3.heap.size < (wr.setCell ⟨w3.heap.size, j, none⟩ (.int .i64 r)).heap.size) := Lib.hid (by rw [World.size_setCell]; exact HZ.out)
      clear hj hr hu hg0 hx0 hy0 bd0 bd1 HO HC HZ HS HG HX HY
      go_wp2
      go_still_tail 19, (by kernel_rfl)
      still_call (same_ (s_l1Sub _ _ _ x0 x1 y0 y1))
      try rw [HU.out]
      repeat still_step
      refine wpStill_nil ?_
      change wpList _ _ _ _ _ wr.drew
      go_wp2
      go_roundw
      case rel => exact ⟨m + 1, by omega, by go_num, HO2, Lib.hid HC2.out.drew, HZ2⟩
      case measure => simp [intOf] <;> omega
    · have hmn : m = n := by omega
      subst hmn
      have HOF : Hid (OwIntS wr w.heap.size wr.heap.size (.slice (some ⟨w3.heap.size, 0, none⟩) m m) (R_ChoiceMasks_0 (ds, z) (k : Int) xs ys)) := Lib.hid (by
        rw [HE.out]
        exact ⟨by unfold turnL; simp; omega, _, _, _, rfl, HO.out.widen (by have := HX3.out.lt; omega) HZ.out⟩)
      have HBF : Hid (Below w.heap.size w wr) := Lib.hid (HB3.out.trans (HC.out.mono HB3.out.size))
      clear HO HC
      go_wp2
      go_ret2
      exact ⟨_, ret_vb HF.out.symm, HOF.out, HBF.out⟩
theorem X_s_ChoiceMasks (v v1 v2 : Value) (d : List Int × Int) (ch : Int) (xs ys : List Int) (w : World) (h : RdDeal w w.heap.size v d) (h1 : RdIntS w w.heap.size v1 xs) (h2 : RdIntS w w.heap.size v2 ys) (hs : szDeal d ≤ 1048576) (hs1 : szIntS xs ≤ 1048576) (hs2 : szIntS ys ≤ 1048576) :
    Calls Try.prog 62 #[v, .int .i64 ch, v1, v2] w fun e w' => ∃ g, e = .returned (.tuple #[g, .bool (R_ChoiceMasks_1 d ch xs ys)]) ∧ OwIntS w' w.heap.size w'.heap.size g (R_ChoiceMasks_0 d ch xs ys) ∧ Below w.heap.size w w' := by
  obtain ⟨A, n, c, rfl, B, k, q, hv, _, hr⟩ := h
  injection hv with e1 e2 e3
  subst e1 e2 e3
  obtain ⟨A1, n1, c1, rfl, _, r1⟩ := h1
  obtain ⟨A2, n2, c2, rfl, _, r2⟩ := h2
  have hl := hr.len
  exact s_ChoiceMasks A n c d.2 d.1 ch A1 n1 c1 xs A2 n2 c2 ys w hr (by unfold szDeal szIntS at hs; omega) r1 (by have := r1.len; unfold szIntS at hs1; omega) r2 (by have := r2.len; unfold szIntS at hs2; omega)
end Go.Proofs.Ythfkjaofgpgoeaa

/- Lists of lists of points: what reads, what is owned; the laws' helpers over them. Made by tools/genss.py. -/
namespace Go.Proofs.Ythfkjaofgpgoeaa
open Go.RowKit
set_option maxRecDepth 100000

/-- the sum of the lengths of the first k rows -/
def lensKP (d : List (List (Int × Int))) : Nat → Nat
  | 0 => 0
  | k + 1 => lensKP d k + (d.getD k []).length
theorem lensKP_mono (d : List (List (Int × Int))) {i j : Nat} (h : i ≤ j) : lensKP d i ≤ lensKP d j := by
  induction j with
  | zero => rw [show i = 0 by omega]; exact Nat.le_refl _
  | succ j ih =>
    by_cases hc : i = j + 1
    · rw [hc]; exact Nat.le_refl _
    · have := ih (by omega); rw [lensKP]; omega
theorem lensKP_row (d : List (List (Int × Int))) {k n : Nat} (h : k < n) : (d.getD k []).length ≤ lensKP d n := by
  have := lensKP_mono d (show k + 1 ≤ n by omega); rw [lensKP] at this; omega

/-- (A, n) reads as the rows d, below block hi -/
def RdRP (w : World) (hi : Nat) (A : Option Addr) (n : Nat) (vs : List Value) (d : List (List (Int × Int))) : Prop :=
  Rd w hi 1 A n vs ∧ d.length = n ∧ ∀ i, i < n → RdPointS w hi (vs.getD i undef) (d.getD i [])
section
variable {w w' : World} {lo hi lo' hi' n c k g : Nat} {A : Option Addr} {vs : List Value} {d : List (List (Int × Int))}
theorem RdRP.row (h : RdRP w hi A n vs d) (hk : k < n) : ∃ (a : Addr) (Ai : Option Addr) (ni ci : Nat), A = some a ∧ a.block < hi ∧ w.cell? (a.add k) = some (.slice Ai ni ci) ∧ RdPointS w hi (.slice Ai ni ci) (d.getD k []) ∧ ni ≤ 9223372036854775807 ∧ (d.getD k []).length = ni := by
  obtain ⟨h1, h2, h3⟩ := h
  obtain ⟨a, e, hb, hc⟩ := h1.2 (by omega)
  have hl := h1.1
  have hr := h3 k hk
  obtain ⟨Ai, ni, ci, e2, hn, r⟩ := h3 k hk
  refine ⟨a, Ai, ni, ci, e, hb, ?_, ?_, hn, r.plen⟩
  · rw [← e2]; exact hc k _ (getD_get (by omega))
  · rw [← e2]; exact hr
theorem RdRP.keep (h : RdRP w hi A n vs d) (hb : Below hi w w') : RdRP w' hi A n vs d := ⟨h.1.below hb, h.2.1, fun i hi' => (h.2.2 i hi').below hb⟩
theorem RdRP.more (h : RdRP w hi A n vs d) (hh : hi ≤ hi') : RdRP w hi' A n vs d := ⟨h.1.more hh, h.2.1, fun i hi' => (h.2.2 i hi').more hh⟩
end

/-- the first k rows copied, the others still nil -/
def copyRP (d : List (List (Int × Int))) (n k : Nat) : List (List (Int × Int)) := d.take k ++ List.replicate (n - k) []
theorem copyRP_get (d : List (List (Int × Int))) (n k i : Nat) (h : d.length = n) (hk : k ≤ n) : (copyRP d n k).getD i [] = if i < k then d.getD i [] else [] := by
  unfold copyRP
  simp only [List.getD_eq_getElem?_getD, List.getElem?_append, List.length_take, List.getElem?_take, List.getElem?_replicate]
  by_cases h1 : i < k
  · rw [if_pos (by omega), if_pos h1, if_pos h1]
  · rw [if_neg (by omega), if_neg h1]
    by_cases h2 : i - min k d.length < n - k
    · rw [if_pos h2]; rfl
    · rw [if_neg h2]; rfl
theorem copyRP_all (d : List (List (Int × Int))) (n : Nat) (h : d.length = n) : copyRP d n n = d := by
  unfold copyRP; rw [List.take_of_length_le (by omega), Nat.sub_self]; simp

/-- rows marked one behind the other -/
def mkRowP (K : Int) (d : List (List (Int × Int))) (i : Nat) : List (Int × Int) := iotaP (K + 2 * lensKP d i) (d.getD i []).length
def mkPointSS (K : Int) (d : List (List (Int × Int))) : List (List (Int × Int)) := (List.range d.length).map (mkRowP K d)
def markRP (K : Int) (d : List (List (Int × Int))) (k : Nat) : List (List (Int × Int)) := (List.range d.length).map fun i => if i < k then mkRowP K d i else d.getD i []
theorem markRP_get (K : Int) (d : List (List (Int × Int))) (k i : Nat) (h : i < d.length) : (markRP K d k).getD i [] = if i < k then mkRowP K d i else d.getD i [] := by simp [markRP, h]
theorem mkPointSS_get (K : Int) (d : List (List (Int × Int))) (i : Nat) (h : i < d.length) : (mkPointSS K d).getD i [] = mkRowP K d i := by simp [mkPointSS, h]
theorem mkRowP_len (K : Int) (d : List (List (Int × Int))) (i : Nat) : (mkRowP K d i).length = (d.getD i []).length := by rw [mkRowP, iotaP_length]
theorem markRP_length (K : Int) (d : List (List (Int × Int))) (k : Nat) : (markRP K d k).length = d.length := by simp [markRP]
theorem mkPointSS_length (K : Int) (d : List (List (Int × Int))) : (mkPointSS K d).length = d.length := by simp [mkPointSS]
theorem ext_rowsP {p q : List (List (Int × Int))} (hl : p.length = q.length) (h : ∀ j, j < p.length → p.getD j [] = q.getD j []) : p = q := by
  apply List.ext_getElem hl
  intro j h1 h2
  have := h j h1
  simpa [h1, h2] using this
theorem markRP_0 (K : Int) (d : List (List (Int × Int))) : markRP K d 0 = d := ext_rowsP (markRP_length _ _ _) fun j hj => by rw [markRP_length] at hj; rw [markRP_get _ _ _ _ hj, if_neg (by omega)]
theorem markRP_n (K : Int) (d : List (List (Int × Int))) : markRP K d d.length = mkPointSS K d := ext_rowsP (by rw [markRP_length, mkPointSS_length]) fun j hj => by rw [markRP_length] at hj; rw [markRP_get _ _ _ _ hj, if_pos hj, mkPointSS_get _ _ _ hj]
theorem markRP_succ (K : Int) (d : List (List (Int × Int))) (k : Nat) (_hk : k < d.length) : (markRP K d k).set k (mkRowP K d k) = markRP K d (k + 1) := by
  refine ext_rowsP (by simp [markRP_length]) fun j hj => ?_
  rw [List.length_set, markRP_length] at hj
  rw [markRP_get _ _ _ _ hj]
  simp only [List.getD_eq_getElem?_getD, List.getElem?_set, markRP_length]
  by_cases hc : k = j
  · subst hc; rw [if_pos rfl, if_pos hj, if_pos (by omega)]; rfl
  · rw [if_neg hc, ← List.getD_eq_getElem?_getD, markRP_get _ _ _ _ hj]
    by_cases h2 : j < k
    · rw [if_pos h2, if_pos (by omega)]
    · rw [if_neg h2, if_neg (by omega)]; rfl

/-- the size: the rows and all that they hold -/
def szPointSS (d : List (List (Int × Int))) : Nat := d.length + lensKP d d.length

/-! as whole values -/
def RdPointSS (w : World) (hi : Nat) (v : Value) (d : List (List (Int × Int))) : Prop := ∃ A n c vs, v = .slice A n c ∧ n ≤ 9223372036854775807 ∧ RdRP w hi A n vs d
section
variable {w w' : World} {lo hi lo' hi' B mid : Nat} {v : Value} {d : List (List (Int × Int))}
theorem RdPointSS.below (h : RdPointSS w hi v d) (hb : Below hi w w') : RdPointSS w' hi v d := by
  obtain ⟨A, n, c, vs, rfl, hn, r⟩ := h; exact ⟨A, n, c, vs, rfl, hn, r.keep hb⟩
theorem RdPointSS.more (h : RdPointSS w hi v d) (hh : hi ≤ hi') : RdPointSS w hi' v d := by
  obtain ⟨A, n, c, vs, rfl, hn, r⟩ := h; exact ⟨A, n, c, vs, rfl, hn, r.more hh⟩
end
theorem mkP_lens (K : Int) (d : List (List (Int × Int))) (k : Nat) (h : k ≤ d.length) : lensKP (mkPointSS K d) k = lensKP d k := by
  induction k with
  | zero => rfl
  | succ k ih => rw [lensKP, lensKP, ih (by omega), mkPointSS_get _ _ _ (by omega), mkRowP_len]
theorem mkP_sz (K : Int) (d : List (List (Int × Int))) : szPointSS (mkPointSS K d) = szPointSS d := by unfold szPointSS; rw [mkPointSS_length, mkP_lens _ _ _ (Nat.le_refl _)]
end Go.Proofs.Ythfkjaofgpgoeaa

/- A struct of one-cell fields among a law's parameters. -/
namespace Go.Proofs.Ythfkjaofgpgoeaa
open Go.ChangeShapes Go.WideShapes Go.ChangeAt Go.RowKit
theorem field_int {H : Type} {enc : TypeId × Value → H} {P : Program} {w : World} {base n : Nat} {sp : Nat → Bool} {held : Bool} {t : TypeId} {u : Value} {y : DataW H × List MemPlace} (ht : P.underlying t = some (.int .i64)) (h : DataW.trod enc P w base sp held n t [u] = some y) :
    ∃ z, u = .int .i64 z ∧ (Lit.int .i64 z).wf = true := by
  cases n with
  | zero => simp [DataW.trod] at h
  | succ n =>
    cases u <;> simp [DataW.trod, ht] at h
    obtain ⟨⟨rfl, hw⟩, _⟩ := h
    exact ⟨_, rfl, hw⟩
theorem field_bool {H : Type} {enc : TypeId × Value → H} {P : Program} {w : World} {base n : Nat} {sp : Nat → Bool} {held : Bool} {t : TypeId} {u : Value} {y : DataW H × List MemPlace} (ht : P.underlying t = some .bool) (h : DataW.trod enc P w base sp held n t [u] = some y) :
    ∃ z, u = .bool z := by
  cases n with
  | zero => simp [DataW.trod] at h
  | succ n =>
    cases u <;> simp [DataW.trod, ht] at h
    exact ⟨_, rfl⟩
end Go.Proofs.Ythfkjaofgpgoeaa

/- Arguments that are structs with lists, opened. -/
namespace Go.Proofs.Ythfkjaofgpgoeaa
open Go.ChangeShapes Go.WideShapes Go.ChangeAt Go.RowKit
set_option maxRecDepth 100000

section
variable {H : Type} {enc : TypeId × Value → H} {P : Program} {w : World}
theorem row_lt {a : Addr} {K : Nat} {u : Value} (h : w.cell? (a.add K) = some u) : a.block < w.heap.size := by
  have := World.block_lt_of_cell? (a := a.add K) _ h
  rw [add_block] at this; exact this

/-- a list of structs of K ints -/
theorem open_flat (K : Nat) (hK : 0 < K) {t e : TypeId} {fs : Array Field} {fuel : Nat} {cs : List Value} {x : DataW H × List MemPlace} (ht : P.underlying t = some (.slice e)) (he : P.underlying e = some (.struct fs)) (ce : P.cellsOf e = K)
    (hf : ∀ j, j < K → ∃ f, fs[j]? = some f ∧ f.offset = j ∧ P.cellsOf f.type = 1 ∧ P.underlying f.type = some (.int .i64)) (h : DataW.trod enc P w 0 (fun _ => true) true fuel t cs = some x) :
    ∃ A n c, cs = [.slice A n c] ∧ n ≤ 9223372036854775807 ∧ (0 < n → ∃ a, A = some a ∧ a.block < w.heap.size) ∧ ∃ Z : Nat → Nat → Int, ∀ a, A = some a → ∀ i, i < n → ∀ j, j < K → w.cell? (a.add (i * K + j)) = some (.int .i64 (Z i j)) := by
  rcases Go.Deep.open_slice ht h with ⟨rfl, _⟩ | ⟨a, len, cap, m, n, D, Pl, rfl, _, hl, hm, hmm, _, hx⟩
  · exact ⟨_, _, _, rfl, by omega, fun h => by omega, fun _ _ => 0, fun a ha => by cases ha⟩
  · simp only [if_true] at hmm
    unfold maxLen at hm
    have each : ∀ i, i < len → ∃ z : Nat → Int, ∀ j, j < K → w.cell? (a.add (i * K + j)) = some (.int .i64 (z j)) := by
      intro i hi
      obtain ⟨cs', h1, h2⟩ := hx i (by omega)
      rw [ce] at h1
      obtain ⟨_, hlen, hcell⟩ := World.cells?_some h1
      obtain ⟨xs, k, hk, _, _, hxl, hf2⟩ := DataW.trod_struct he h2
      refine ⟨fun j => intOf (cs'.getD j undef), fun j hj => ?_⟩
      obtain ⟨f, f1, f2, f3, f4⟩ := hf j hj
      have g := hf2 j f f1
      have hjx : j < xs.length := by
        rw [hxl]
        exact (Array.getElem?_eq_some_iff.1 f1).1
      rw [f2, f3, List.getElem?_eq_getElem hjx] at g
      have hjl : j < cs'.length := by omega
      have e0 : cs'[j]? = some (cs'.getD j undef) := by rw [List.getD_eq_getElem?_getD, List.getElem?_eq_getElem hjl]; rfl
      have e1 : (cs'.drop j).take 1 = [cs'.getD j undef] := by
        rw [List.drop_eq_getElem_cons hjl, List.take_succ_cons, List.take_zero, List.getD_eq_getElem?_getD, List.getElem?_eq_getElem hjl]; rfl
      rw [e1] at g
      obtain ⟨z, e2, _⟩ := DataW.trod_int f4 g
      have e3 : cs'.getD j undef = .int .i64 z := by injection e2
      have e4 := hcell j hj
      rw [Go.Deep.add_add] at e4
      rw [e4, e0]
      show some (cs'.getD j undef) = some (.int .i64 (intOf (cs'.getD j undef)))
      rw [e3]; rfl
    obtain ⟨Z, hZ⟩ := Go.Deep.choose_lt each
    refine ⟨some a, len, cap, rfl, by omega, fun h0 => ⟨a, rfl, row_lt (hZ 0 h0 0 hK)⟩, Z, fun b hb i hi j hj => ?_⟩
    injection hb with hb; subst hb
    exact hZ i hi j hj

theorem field_GateS {t e : TypeId} {f0 f1 f2 : Field} {n : Nat} {u : Value} {y : DataW H × List MemPlace} (ht : P.underlying t = some (.slice e)) (he : P.underlying e = some (.struct #[f0, f1, f2])) (ce : P.cellsOf e = 3)
    (o0 : f0.offset = 0) (o1 : f1.offset = 1) (o2 : f2.offset = 2) (c0 : P.cellsOf f0.type = 1) (c1 : P.cellsOf f1.type = 1) (c2 : P.cellsOf f2.type = 1) (t0 : P.underlying f0.type = some (.int .i64)) (t1 : P.underlying f1.type = some (.int .i64)) (t2 : P.underlying f2.type = some (.int .i64))
    (h : DataW.trod enc P w 0 (fun _ => true) true n t [u] = some y) : ∃ A n c d, u = .slice A n c ∧ RdGateS w w.heap.size (.slice A n c) d := by
  obtain ⟨A, n, c, hu, hn, hb, Z, hZ⟩ := open_flat 3 (by omega) ht he ce (fun j hj => by
    match j, hj with
    | 0, _ => exact ⟨f0, rfl, o0, c0, t0⟩
    | 1, _ => exact ⟨f1, rfl, o1, c1, t1⟩
    | 2, _ => exact ⟨f2, rfl, o2, c2, t2⟩) h
  refine ⟨A, n, c, (List.range n).map fun i => (Z i 0, Z i 1, Z i 2), by simpa using hu, A, n, c, rfl, hn, by rw [cGate_length]; simp, fun h0 => ?_⟩
  obtain ⟨a, rfl, hab⟩ := hb h0
  refine ⟨a, rfl, hab, fun j v hv => ?_⟩
  have hj : j < n * 3 := by
    have := (List.getElem?_eq_some_iff.1 hv).1
    rw [cGate_length] at this; simpa using this
  have h2 : j = (j / 3) * 3 + 0 ∨ j = (j / 3) * 3 + 1 ∨ j = (j / 3) * 3 + 2 := by omega
  have hk : j / 3 < n := by omega
  generalize j / 3 = k at h2 hk
  rcases h2 with rfl | rfl | rfl
  · rw [hZ a rfl k hk 0 (by omega), ← hv, Nat.add_zero, cGate_get0 _ _ (by simpa using hk)]; simp [hk]
  · rw [hZ a rfl k hk 1 (by omega), ← hv, cGate_get1 _ _ (by simpa using hk)]; simp [hk]
  · rw [hZ a rfl k hk 2 (by omega), ← hv, cGate_get2 _ _ (by simpa using hk)]; simp [hk]

theorem field_IntS {t e : TypeId} {n : Nat} {u : Value} {y : DataW H × List MemPlace} (ht : P.underlying t = some (.slice e)) (he : P.underlying e = some (.int .i64)) (hc : P.cellsOf e = 1)
    (h : DataW.trod enc P w 0 (fun _ => true) true n t [u] = some y) : ∃ A n c d, u = .slice A n c ∧ RdIntS w w.heap.size (.slice A n c) d := by
  rcases open_ints ht he hc h with ⟨hn, _⟩ | ⟨a, len, cap, zs, hs, _, hlc, hm, hlen, _, hcell, _⟩
  · have : u = .slice none 0 0 := by simpa using hn
    exact ⟨_, _, _, [], this, _, _, _, rfl, by omega, by simp [cI], fun h => by omega⟩
  · have : u = .slice (some a) len cap := by simpa using hs
    simp only [if_true] at hlen
    unfold maxLen at hm
    refine ⟨_, _, _, zs.take len, this, _, _, _, rfl, by omega, by rw [cI_length, List.length_take]; omega, fun hn => ⟨a, rfl, row_lt (hcell 0 (by omega)), fun j v hv => ?_⟩⟩
    have hj : j < len := by
      have := (List.getElem?_eq_some_iff.1 hv).1
      rw [cI_length, List.length_take] at this; omega
    rw [hcell j (by omega), ← hv, cI_get _ _ (by rw [List.length_take]; omega)]
    simp [hj]

theorem field_PointS {t e : TypeId} {f0 f1 : Field} {n : Nat} {u : Value} {y : DataW H × List MemPlace} (ht : P.underlying t = some (.slice e)) (he : P.underlying e = some (.struct #[f0, f1])) (ce : P.cellsOf e = 2)
    (o0 : f0.offset = 0) (o1 : f1.offset = 1) (c0 : P.cellsOf f0.type = 1) (c1 : P.cellsOf f1.type = 1) (t0 : P.underlying f0.type = some (.int .i64)) (t1 : P.underlying f1.type = some (.int .i64))
    (h : DataW.trod enc P w 0 (fun _ => true) true n t [u] = some y) : ∃ A n c d, u = .slice A n c ∧ RdPointS w w.heap.size (.slice A n c) d := by
  obtain ⟨A, n, c, hu, hn, hb, Z, hZ⟩ := open_flat 2 (by omega) ht he ce (fun j hj => by
    match j, hj with
    | 0, _ => exact ⟨f0, rfl, o0, c0, t0⟩
    | 1, _ => exact ⟨f1, rfl, o1, c1, t1⟩) h
  refine ⟨A, n, c, (List.range n).map fun i => (Z i 0, Z i 1), by simpa using hu, A, n, c, rfl, hn, by rw [cP_length]; simp, fun h0 => ?_⟩
  obtain ⟨a, rfl, hab⟩ := hb h0
  refine ⟨a, rfl, hab, fun j v hv => ?_⟩
  have hj : j < n * 2 := by
    have := (List.getElem?_eq_some_iff.1 hv).1
    rw [cP_length] at this; simpa using this
  have h2 : j = (j / 2) * 2 + 0 ∨ j = (j / 2) * 2 + 1 := by omega
  have hk : j / 2 < n := by omega
  generalize j / 2 = k at h2 hk
  rcases h2 with rfl | rfl
  · rw [hZ a rfl k hk 0 (by omega), ← hv, Nat.add_zero, cP_get1 _ _ (by simpa using hk)]; simp [hk]
  · rw [hZ a rfl k hk 1 (by omega), ← hv, cP_get2 _ _ (by simpa using hk)]; simp [hk]

theorem field_PointSS {t t' e : TypeId} {f0 f1 : Field} {n : Nat} {u : Value} {y : DataW H × List MemPlace} (ht : P.underlying t = some (.slice t')) (ct : P.cellsOf t' = 1) (ht' : P.underlying t' = some (.slice e)) (he : P.underlying e = some (.struct #[f0, f1])) (ce : P.cellsOf e = 2)
    (o0 : f0.offset = 0) (o1 : f1.offset = 1) (c0 : P.cellsOf f0.type = 1) (c1 : P.cellsOf f1.type = 1) (t0 : P.underlying f0.type = some (.int .i64)) (t1 : P.underlying f1.type = some (.int .i64))
    (h : DataW.trod enc P w 0 (fun _ => true) true n t [u] = some y) : ∃ A n c d, u = .slice A n c ∧ RdPointSS w w.heap.size (.slice A n c) d := by
  rcases Go.Deep.open_slice ht h with ⟨hu, _⟩ | ⟨a, len, cap, m, n, D, Pl, hu, _, hl, hm, hmm, _, hx⟩
  · have : u = .slice none 0 0 := by simpa using hu
    exact ⟨_, _, _, [], this, _, _, _, [], rfl, by omega, ⟨rfl, fun h => by omega⟩, rfl, fun i hi => by omega⟩
  · have hu2 : u = .slice (some a) len cap := by simpa using hu
    simp only [if_true] at hmm
    unfold maxLen at hm
    have each : ∀ i, i < len → ∃ q : Value × List (Int × Int), w.cell? (a.add i) = some q.1 ∧ RdPointS w w.heap.size q.1 q.2 := by
      intro i hi
      obtain ⟨cs', h1, h2⟩ := hx i (by omega)
      rw [ct] at h1
      obtain ⟨_, hlen, hcell⟩ := World.cells?_some h1
      match cs', hlen with
      | [v], _ =>
        obtain ⟨A, n, c, d, rfl, r⟩ := field_PointS ht' he ce o0 o1 c0 c1 t0 t1 h2
        refine ⟨(_, d), ?_, r⟩
        have := hcell 0 (by omega)
        rw [Nat.mul_one, Go.Deep.add_add, Nat.add_zero] at this
        simpa using this
    obtain ⟨q, hq⟩ := Go.Deep.choose_lt each
    refine ⟨_, _, _, (List.range len).map fun i => (q i).2, hu2, _, _, _, (List.range len).map fun i => (q i).1, rfl, by omega, ⟨by simp, fun h0 => ⟨a, rfl, row_lt (hq 0 h0).1, fun j v hv => ?_⟩⟩, by simp, fun i hi => ?_⟩
    · have hj : j < len := by
        have := (List.getElem?_eq_some_iff.1 hv).1
        simpa using this
      simp [hj] at hv
      rw [← hv]; exact (hq j hj).1
    · simp only [List.getD_eq_getElem?_getD, List.getElem?_map, List.getElem?_range hi, Option.map_some, Option.getD_some]
      exact (hq i hi).2
end
end Go.Proofs.Ythfkjaofgpgoeaa
