import Derived.Test.YthfkjaofgpgoeaaWalk11b
import Derived.Test.YthfkjaofgpgoeaaWalk11c
import Derived.Deep.RegionHeld3
import Derived.Test.YthfkjaofgpgoeaaFaceP
import Derived.Test.YthfkjaofgpgoeaaSS2
import Derived.Test.YthfkjaofgpgoeaaWalk5d
import Derived.StillTailTactics
import Derived.Test.YthfkjaofgpgoeaaLaw
import Derived.Lib.SmallJoins
import Derived.Test.YthfkjaofgpgoeaaCircuit
/- Chapter 11: the program's masked, over any two closures; ChoiceAnswer's closure. -/
namespace Go.Proofs.Ythfkjaofgpgoeaa
open Go.RowKit
set_option maxRecDepth 100000

theorem map_step (op : Int → Int → Int) (xs : List Int) (ms : Nat → Int) {k n : Nat} (hk : k < n) : (mapK op xs ms k ++ List.replicate (n - k) 0).set k (mapE op xs ms k) = mapK op xs ms (k + 1) ++ List.replicate (n - (k + 1)) 0 := by
  have hl := mapK_length op xs ms k
  rw [List.set_append_right _ _ (by omega), hl, Nat.sub_self, show n - k = (n - (k + 1)) + 1 by omega, List.replicate_succ, List.set_cons_zero, mapK, List.append_assoc, List.singleton_append]

set_option maxHeartbeats 4000000 in
theorem i_masked (F G : FuncId) (caps : Array Value) (op : Int → Int → Int) (ms : Nat → Int) (A : Option Addr) (n c : Nat) (xs : List Int) (w : World) (h : Rd w w.heap.size 1 A n (cI xs)) (hN : Nums xs) (hm : ∀ k, 0 ≤ ms k ∧ ms k ≤ 112) (hn : n ≤ 8)
    (eg : ∀ args W, (callFunc F args).run Try.prog W = .ok (.enter F args) W) (eg2 : ∀ args W, (callFunc G args).run Try.prog W = .ok (.enter G args) W)
    (hS : ∀ W (k : Nat), Below w.heap.size w W → k < n → Calls Try.prog F (#[.int .i64 k] ++ caps) W fun e W' => ∃ b, e = .returned (.func (.func G) #[] #[.pointer (some ⟨b, 0, none⟩)]) ∧ W'.cell? ⟨b, 0, none⟩ = some (.int .i64 (ms k)) ∧ Below W.heap.size W W')
    (hG : ∀ (a m : Int) (b : Nat) (W : World), W.cell? ⟨b, 0, none⟩ = some (.int .i64 m) → 0 ≤ a → a ≤ 112 → 0 ≤ m → m ≤ 112 → Calls Try.prog G #[.int .i64 a, .pointer (some ⟨b, 0, none⟩)] W fun e W' => e = .returned (.int .i64 (op a m % 113)) ∧ W = W') :
    Calls Try.prog 107 #[.slice A n c, .func (.func F) #[] caps] w fun e w' => ∃ A' c', e = .returned (.slice A' n c') ∧ OwIntS w' w.heap.size w'.heap.size (.slice A' n c') (mapK op xs ms n) ∧ Below w.heap.size w w' := by
  have HX := Lib.hid h
  have HN := Lib.hid hN
  have HM := Lib.hid hm
  have HS1 := Lib.hid hS
  have HG1 := Lib.hid hG
  clear h hN hm hS hG
  have hmk := fun W => run_make1 (P := Try.prog) Try.underlying22 info_int rfl n (by omega) (by omega) W
  have HO0 : Hid (Ow (w.alloc (.cells (Array.replicate n (.int .i64 0)) 3)) w.heap.size (w.heap.size + 1) 3 1 (some ⟨w.heap.size, 0, none⟩) n n (cI (mapK op xs ms 0 ++ List.replicate (n - 0) 0))) := Lib.hid (by
    have := Ow.zeros w (.int .i64 0) 3 n
    rw [cI_zeros] at this; exact this)
  have HB0 : Hid (Below w.heap.size w (w.alloc (.cells (Array.replicate n (.int .i64 0)) 3))) := Lib.hid ((Below.refl _ _).alloc (Nat.le_refl _) _)
  have HZ0 : Hid (w.heap.size < (w.alloc (.cells (Array.replicate n (.int .i64 0)) 3)).heap.size) := Lib.hid (by simp)
  go_enter Try.func107, Try.ntmps107
  go_wp2
  go_loopw [13] (fun i wr => ∃ k : Nat, k ≤ n ∧ i = .int .i64 k ∧ Hid (Ow wr w.heap.size (w.heap.size + 1) 3 1 (some ⟨w.heap.size, 0, none⟩) n n (cI (mapK op xs ms k ++ List.replicate (n - k) 0))) ∧ Hid (Below w.heap.size w wr) ∧ Hid (w.heap.size < wr.heap.size)) (fun i _ => n - (intOf i).toNat)
  case atStart => exact ⟨0, Nat.zero_le _, rfl, HO0, HB0, HZ0⟩
  case round =>
    clear HO0 HB0 HZ0
    obtain ⟨k, hk, rfl, HO, HB, HZ⟩ := hrel
    by_cases hlt : k < n
    · obtain ⟨a, x, rfl, hab, hx0, HP⟩ := HX.out.intAt hlt
      have hx := (HB.out.cell (p := a.add k) (by rw [add_block]; exact hab)).trans hx0
      obtain ⟨x0, x1⟩ := HN.out k
      rw [← HP.out] at x0 x1
      obtain ⟨y, hy⟩ : ∃ y, ms k = y := ⟨_, rfl⟩
      obtain ⟨y0, y1⟩ := HM.out k
      rw [hy] at y0 y1
      have HE : Hid (mapE op xs ms k = op x y % 113) := Lib.hid (by rw [mapE, hy, ← HP.out])
      have HY := Lib.hid hy
      obtain ⟨v, hv⟩ : ∃ v, op x y % 113 = v := ⟨_, rfl⟩
      have HV := Lib.hid hv
      clear hy hv hx0
      have i0 : (0 : Int) ≤ (k : Int) := by omega
      have i1 : (k : Int) < (n : Int) := by omega
      go_wp2_with fail
      refine (HS1.out wr k HB.out hlt).mono ?_
      rintro e w1 ⟨b, rfl, hc, hb⟩
      rw [HY.out] at hc
      have HO1 := Lib.hid (HO.out.below hb (by have := HZ.out; omega))
      have HB1 := Lib.hid (HB.out.trans (hb.mono HB.out.size))
      have HZ1 : Hid (w.heap.size < w1.heap.size) := Lib.hid (by have := HZ.out; have := hb.size; omega)
      clear HO HB HZ hb hx
      go_wp2_with fail
      refine (HG1.out x y b w1 hc x0 x1 y0 y1).mono ?_
      rintro e w2 ⟨rfl, rfl⟩
      rw [HV.out]
      obtain ⟨v0, hv0⟩ : ∃ v, w1.cell? ⟨w.heap.size, k, none⟩ = some v := ⟨_, HO1.out.cellAt (List.getElem?_eq_getElem (by have := HO1.out.1; omega))⟩
      have hf := HO1.out.free (by omega) k
      have HO2 := Lib.hid (HO1.out.set k (.int .i64 v))
      have HET : Hid ((mapK op xs ms k ++ List.replicate (n - k) 0).set k v = mapK op xs ms (k + 1) ++ List.replicate (n - (k + 1)) 0) := Lib.hid (by rw [← map_step op xs ms hlt, HE.out, HV.out])
      rw [cI_set, HET.out] at HO2
      have HB2 := Lib.hid (HB1.out.setCell (p := ⟨w.heap.size, k, none⟩) (by simp) (.int .i64 v))
      have HZ2 : Hid (w.heap.size < (w1.setCell ⟨w.heap.size, k, none⟩ (.int .i64 v)).heap.size) := Lib.hid (by rw [World.size_setCell]; exact HZ1.out)
      clear HO1 HB1 HZ1 HE HET hc HV HY
      go_wp2
      go_roundw
      case rel => exact ⟨k + 1, by omega, by go_num, HO2, HB2, HZ2⟩
      case measure => simp [intOf] <;> omega
    · have hkn : k = n := by omega
      have HOF : Hid (OwIntS wr w.heap.size wr.heap.size (.slice (some ⟨w.heap.size, 0, none⟩) n n) (mapK op xs ms n)) := Lib.hid (by
        have := HO.out
        rw [hkn, Nat.sub_self, List.replicate_zero, List.append_nil] at this
        exact ⟨by rw [mapK_length]; omega, _, _, _, rfl, this.widen (Nat.le_refl _) HZ.out⟩)
      clear HO hkn
      go_wp2
      go_ret
      exact ⟨_, _, rfl, HOF.out, HB.out⟩

set_option maxHeartbeats 4000000 in
theorem i_answer1 (k : Nat) (b1 b2 b3 : Nat) (A : Option Addr) (n c : Nat) (ds : List Int) (t : Int) (w : World) (h1 : w.cell? ⟨b1, 0, none⟩ = some (.slice A n c)) (h2 : w.cell? ⟨b2, 0, none⟩ = some (.int .i64 t)) (h3 : w.cell? ⟨b3, 0, none⟩ = some (.int .i64 n))
    (l1 : b1 < w.heap.size) (l2 : b2 < w.heap.size) (l3 : b3 < w.heap.size) (H : Rd w w.heap.size 1 A n (cI ds)) (hk : k < n) (hn : n ≤ 8) (t0 : 0 ≤ t) (t1 : t < n) :
    Calls Try.prog 108 #[.int .i64 k, .pointer (some ⟨b1, 0, none⟩), .pointer (some ⟨b2, 0, none⟩), .pointer (some ⟨b3, 0, none⟩)] w fun e w' => ∃ b, e = .returned (.func (.func 138) #[] #[.pointer (some ⟨b, 0, none⟩)]) ∧ w'.cell? ⟨b, 0, none⟩ = some (.int .i64 (atM ds t n k)) ∧ Below w.heap.size w w' := by
  obtain ⟨bd0, bd1⟩ := emod_bd ((k : Int) + t) (show 0 < (n : Int) by omega)
  obtain ⟨j, hj⟩ : ∃ j : Nat, ((k : Int) + t) % n = (j : Int) := ⟨(((k : Int) + t) % n).toNat, by omega⟩
  have hjn : j < n := by omega
  obtain ⟨a, y, rfl, hab, hy, HY⟩ := H.intAt hjn
  have HE : Hid (atM ds t n k = y) := Lib.hid (by rw [atM, hj, Int.toNat_natCast, ← HY.out])
  rw [HE.out]
  have HJ := Lib.hid hj
  have j0 : (0 : Int) ≤ (j : Int) := by omega
  have j1 : (j : Int) < (n : Int) := by omega
  have hb := Below.refl w.heap.size w
  have hal : ∀ o, Below w.heap.size w (w.alloc o) ∧ (w.alloc o).cell? ⟨b1, 0, none⟩ = some (.slice (some a) n c) ∧ (w.alloc o).cell? ⟨b2, 0, none⟩ = some (.int .i64 t) ∧ (w.alloc o).cell? ⟨b3, 0, none⟩ = some (.int .i64 n) ∧ (w.alloc o).cell? (a.add j) = some (.int .i64 y) := fun o =>
    have hB := hb.alloc (Nat.le_refl _) o
    ⟨hB, (hB.cell (p := ⟨b1, 0, none⟩) l1).trans h1, (hB.cell (p := ⟨b2, 0, none⟩) l2).trans h2, (hB.cell (p := ⟨b3, 0, none⟩) l3).trans h3, (hB.cell (p := a.add j) (by rw [add_block]; exact hab)).trans hy⟩
  clear hj bd0 bd1 H HE HY
  go_enter Try.func108, Try.ntmps108
  go_wp2
  go_region_held3 (fun w' => Below w.heap.size w w' ∧ w'.cell? ⟨b1, 0, none⟩ = some (.slice (some a) n c) ∧ w'.cell? ⟨b2, 0, none⟩ = some (.int .i64 t) ∧ w'.cell? ⟨b3, 0, none⟩ = some (.int .i64 n) ∧ w'.cell? (a.add j) = some (.int .i64 y))
    (first | exact ⟨hb, h1, h2, h3, hy⟩ | exact ⟨hb.drew, h1, h2, h3, hy⟩ | exact hal _ | exact ⟨(hal _).1.drew, (hal _).2⟩)
    (first
      | (go_at_call 110
         refine (i_indexPlus _ _ _ _ ⟨by omega, by omega⟩ ⟨t0, t1⟩ (by omega)).mono ?_
         rintro e w2 ⟨rfl, rfl⟩
         rw [HJ.out])
      | (go_at_call 109
         refine (i_puttingOn _ _).mono ?_
         rintro e w1 ⟨b, rfl, zb, hx, hw1⟩
         have hs1 : Below w.heap.size w w1 ∧ w1.cell? ⟨b1, 0, none⟩ = some (.slice (some a) n c) ∧ w1.cell? ⟨b2, 0, none⟩ = some (.int .i64 t) ∧ w1.cell? ⟨b3, 0, none⟩ = some (.int .i64 n) ∧ w1.cell? (a.add j) = some (.int .i64 y) := by rw [hw1]; first | exact hal _ | exact ⟨(hal _).1.drew, (hal _).2⟩
         obtain ⟨hb, h1, h2, h3, hy⟩ := hs1
         have hx0 : w1.cell? ⟨b, 0, none⟩ = some (.int .i64 y) := hx.cell 0
         clear hal hw1 zb
         have hal : True := trivial))
  have HB2 := Lib.hid hb
  have HX2 := Lib.hid hx0
  clear hb hx0
  go_wp2
  go_ret
  exact ⟨b, rfl, HX2.out, HB2.out⟩
end Go.Proofs.Ythfkjaofgpgoeaa

/- Chapter 11: the program's ChoiceAnswer. -/
namespace Go.Proofs.Ythfkjaofgpgoeaa
open Go.RowKit
set_option maxRecDepth 100000

theorem eg_answer1 (args : Array Value) (W : World) : (callFunc 108 args).run Try.prog W = .ok (.enter 108 args) W := by kernel_rfl
theorem eg_putting1 (args : Array Value) (W : World) : (callFunc 138 args).run Try.prog W = .ok (.enter 138 args) W := by kernel_rfl
theorem atM_bd {ds : List Int} (h : Nums ds) (t : Int) (n k : Nat) : 0 ≤ atM ds t n k ∧ atM ds t n k ≤ 112 := h _
theorem i_dealOk_of (A : Option Addr) (n c : Nat) (z : Int) (ds : List Int) {w W : World} (h : Rd w w.heap.size 1 A n (cI ds)) (hn : n ≤ 1048576) (hb : Below w.heap.size w W) :
    Calls Try.prog 50 #[.agg #[.slice A n c, .int .i64 z]] W fun e w' => e = .returned (.bool (dealB (ds, z))) ∧ Below W.heap.size W w' := i_DealOk A n c z ds W ((h.below hb).more hb.size) hn

set_option maxHeartbeats 4000000 in
theorem i_ChoiceAnswer (A : Option Addr) (n c : Nat) (z : Int) (ds : List Int) (A' : Option Addr) (n' c' : Nat) (xs : List Int) (t : Int) (w : World) (h : Rd w w.heap.size 1 A n (cI ds)) (hn : n ≤ 1048576) (h' : Rd w w.heap.size 1 A' n' (cI xs)) (hn' : n' ≤ 1048576) :
    Calls Try.prog 55 #[.agg #[.slice A n c, .int .i64 z], .slice A' n' c', .int .i64 t] w fun e w' => ∃ g, e = .returned (.tuple #[g, .bool (R_ChoiceAnswer_1 (ds, z) xs t)]) ∧ OwIntS w' w.heap.size w'.heap.size g (R_ChoiceAnswer_0 (ds, z) xs t) ∧ Below w.heap.size w w' := by
  have HD := Lib.hid h
  have HR := Lib.hid h'
  have HL := Lib.hid h.len
  have HL' := Lib.hid h'.len
  clear h h'
  obtain ⟨W3, hW⟩ : ∃ W, Hid (((w.alloc (.cells #[.slice A n c, .int .i64 z] 53)).alloc (.cells #[.int .i64 t] 3)).alloc (.cells #[.int .i64 n] 3) = W) := ⟨_, Lib.hid rfl⟩
  have HB0 : Hid (Below w.heap.size w W3) := Lib.hid (by rw [← hW.out]; exact (((Below.refl _ _).alloc (Nat.le_refl _) _).alloc (by simp) _).alloc (by simp only [World.size_alloc]; omega) _)
  have HX0 : Hid (Bx W3 w.heap.size #[.slice A n c, .int .i64 z] 53) := Lib.hid (by rw [← hW.out]; exact ((Bx.new _ _ _).alloc _).alloc _)
  have HT0 : Hid (Bx W3 (w.heap.size + 1) #[.int .i64 t] 3) := Lib.hid (by
    rw [← hW.out]; have := (Bx.new (w.alloc (.cells #[.slice A n c, .int .i64 z] 53)) #[.int .i64 t] 3).alloc (.cells #[.int .i64 n] 3); rwa [World.size_alloc] at this)
  have HN0 : Hid (Bx W3 (w.heap.size + 1 + 1) #[.int .i64 n] 3) := Lib.hid (by
    rw [← hW.out]; have := Bx.new ((w.alloc (.cells #[.slice A n c, .int .i64 z] 53)).alloc (.cells #[.int .i64 t] 3)) #[.int .i64 n] 3; rwa [World.size_alloc, World.size_alloc] at this)
  go_enter Try.func55, Try.ntmps55
  go_wp2_with fail
  rw [hW.out]
  clear hW
  refine (i_dealOk_of A n c z ds HD.out hn HB0.out).mono ?_
  rintro e w1 ⟨rfl, hb⟩
  have HX1 := Lib.hid (HX0.out.below hb HX0.out.lt)
  have HT1 := Lib.hid (HT0.out.below hb HT0.out.lt)
  have HN1 := Lib.hid (HN0.out.below hb HN0.out.lt)
  have HB1 : Hid (Below w.heap.size w w1) := Lib.hid (HB0.out.trans (hb.mono HB0.out.size))
  clear hb HX0 HT0 HN0 HB0
  have c0 : w1.cell? ⟨w.heap.size, 0, none⟩ = some (.slice A n c) := HX1.out.cell 0
  have c1 : w1.cell? ⟨w.heap.size + 1, 0, none⟩ = some (.int .i64 t) := HT1.out.cell 0
  have c2 : w1.cell? ⟨w.heap.size + 1 + 1, 0, none⟩ = some (.int .i64 n) := HN1.out.cell 0
  cases e1 : dealB (ds, z)
  · have HF : Hid (R_ChoiceAnswer_1 (ds, z) xs t = false) := Lib.hid (by simp [R_ChoiceAnswer_1, thingsB, e1])
    have HE : Hid (R_ChoiceAnswer_0 (ds, z) xs t = []) := Lib.hid (by simp [R_ChoiceAnswer_0, HF.out])
    go_wp2
    go_ret2
    refine ⟨_, ret_vb HF.out.symm, ?_, HB1.out⟩
    rw [HE.out]; exact OwIntS.nil_ _ _ _
  have HT : Hid (thingsB (ds, z) xs = (decide ((n' : Int) = n) && numsB xs)) := Lib.hid (by simp only [thingsB, e1, HL.out, HL'.out, Bool.true_and, Int.ofNat_inj])
  go_wp2_with fail
  refine (i_manyNumbers _ _ _ _ _ _ ((HR.out.below HB1.out).more HB1.out.size) hn').mono ?_
  rintro e w' ⟨rfl, rfl⟩
  cases e2 : (decide ((n' : Int) = n) && numsB xs)
  · have HF : Hid (R_ChoiceAnswer_1 (ds, z) xs t = false) := Lib.hid (by simp only [R_ChoiceAnswer_1, HT.out, e2, Bool.false_and])
    have HE : Hid (R_ChoiceAnswer_0 (ds, z) xs t = []) := Lib.hid (by simp [R_ChoiceAnswer_0, HF.out])
    go_wp2
    go_ret2
    refine ⟨_, ret_vb HF.out.symm, ?_, HB1.out⟩
    rw [HE.out]; exact OwIntS.nil_ _ _ _
  have HT2 := Lib.hid (HT.out.trans e2)
  simp only [Bool.and_eq_true, decide_eq_true_eq] at e2
  obtain ⟨hnn, hxs⟩ := e2
  simp only [dealB, Bool.and_eq_true, inB_iff] at e1
  obtain ⟨⟨n2, n8⟩, hds, z0, z1⟩ := e1
  rw [HL.out] at n2 n8 z1
  have HNd := Lib.hid (nums_of_B hds)
  have HNx := Lib.hid (nums_of_B hxs)
  clear HT hds hxs
  obtain rfl : n = n' := by omega
  clear hnn
  go_wp2_with fail
  refine (i_indexOk _ _ _).mono ?_
  rintro e w' ⟨rfl, rfl⟩
  cases e3 : inB t 0 ((n : Int) - 1)
  · have HF : Hid (R_ChoiceAnswer_1 (ds, z) xs t = false) := Lib.hid (by simp [R_ChoiceAnswer_1, HL.out, e3])
    have HE : Hid (R_ChoiceAnswer_0 (ds, z) xs t = []) := Lib.hid (by simp [R_ChoiceAnswer_0, HF.out])
    go_wp2
    go_ret2
    refine ⟨_, ret_vb HF.out.symm, ?_, HB1.out⟩
    rw [HE.out]; exact OwIntS.nil_ _ _ _
  have HF : Hid (R_ChoiceAnswer_1 (ds, z) xs t = true) := Lib.hid (by simp [R_ChoiceAnswer_1, HT2.out, HL.out, e3])
  have HE : Hid (R_ChoiceAnswer_0 (ds, z) xs t = mapK (fun x y => x + y) xs (atM ds t n) n) := Lib.hid (by rw [R_ChoiceAnswer_0, if_pos HF.out, HL.out])
  obtain ⟨t0, t1⟩ := inB_iff.1 e3
  have HC := Lib.hid c0
  have HC1 := Lib.hid c1
  have HC2 := Lib.hid c2
  have hS : ∀ W (k : Nat), Below w1.heap.size w1 W → k < n → Calls Try.prog 108 (#[.int .i64 k] ++ #[.pointer (some ⟨w.heap.size, 0, none⟩), .pointer (some ⟨w.heap.size + 1, 0, none⟩), .pointer (some ⟨w.heap.size + 1 + 1, 0, none⟩)]) W fun e W' => ∃ b, e = .returned (.func (.func 138) #[] #[.pointer (some ⟨b, 0, none⟩)]) ∧ W'.cell? ⟨b, 0, none⟩ = some (.int .i64 (atM ds t n k)) ∧ Below W.heap.size W W' := fun W k hb hk =>
    i_answer1 k _ _ _ A n c ds t W ((hb.cell (p := ⟨w.heap.size, 0, none⟩) HX1.out.lt).trans HC.out) ((hb.cell (p := ⟨w.heap.size + 1, 0, none⟩) HT1.out.lt).trans HC1.out) ((hb.cell (p := ⟨w.heap.size + 1 + 1, 0, none⟩) HN1.out.lt).trans HC2.out)
      (Nat.lt_of_lt_of_le HX1.out.lt hb.size) (Nat.lt_of_lt_of_le HT1.out.lt hb.size) (Nat.lt_of_lt_of_le HN1.out.lt hb.size) ((((HD.out.below HB1.out).more HB1.out.size).below hb).more hb.size) hk (by omega) t0 (by omega)
  have HS := Lib.hid hS
  clear hS e3 c0 c1 c2
  go_wp2_with fail
  refine (i_masked 108 138 _ (fun x y => x + y) (atM ds t n) A' n c' xs w1 ((HR.out.below HB1.out).more HB1.out.size) HNx.out (fun k => atM_bd HNd.out t n k) (by omega) eg_answer1 eg_putting1 HS.out (fun a m b W hc a0 a1 m0 m1 => i_puttingOn1 a m b W hc a0 a1 m0 m1)).mono ?_
  rintro e w2 ⟨A3, c3, rfl, ho, hb⟩
  have HO : Hid (OwIntS w2 w.heap.size w2.heap.size (.slice A3 n c3) (R_ChoiceAnswer_0 (ds, z) xs t)) := Lib.hid (by rw [HE.out]; exact ho.widen HB1.out.size (Nat.le_refl _))
  have HB2 : Hid (Below w.heap.size w w2) := Lib.hid (HB1.out.trans (hb.mono HB1.out.size))
  clear ho hb
  go_wp2
  go_ret2
  exact ⟨_, ret_vb HF.out.symm, HO.out, HB2.out⟩
theorem X_i_ChoiceAnswer (v v' : Value) (d : List Int × Int) (xs : List Int) (t : Int) (w : World) (h : RdDeal w w.heap.size v d) (h' : RdIntS w w.heap.size v' xs) (hs : szDeal d ≤ 1048576) (hs' : szIntS xs ≤ 1048576) :
    Calls Try.prog 55 #[v, v', .int .i64 t] w fun e w' => ∃ g, e = .returned (.tuple #[g, .bool (R_ChoiceAnswer_1 d xs t)]) ∧ OwIntS w' w.heap.size w'.heap.size g (R_ChoiceAnswer_0 d xs t) ∧ Below w.heap.size w w' := by
  obtain ⟨A, n, c, rfl, B, k, q, hv, _, hr⟩ := h
  injection hv with h1 h2 h3
  subst h1 h2 h3
  obtain ⟨A', n', c', rfl, _, r⟩ := h'
  have hl := hr.len
  exact i_ChoiceAnswer A n c d.2 d.1 A' n' c' xs t w hr (by unfold szDeal szIntS at hs; omega) r (by have := r.len; unfold szIntS at hs'; omega)
end Go.Proofs.Ythfkjaofgpgoeaa

/- Lists of lists of points: what reads, what is owned; the laws' helpers over them. Made by tools/genss.py. -/
namespace Go.Proofs.Ythfkjaofgpgoeaa
open Go.RowKit
set_option maxRecDepth 100000

/-- the sum of the lengths of the first k rows -/
def lensKP (d : List (List (Int × Int))) : Nat → Nat
  | 0 => 0
  | k + 1 => lensKP d k + (d.getD k []).length
theorem lensKP_mono (d : List (List (Int × Int))) {i j : Nat} (h : i ≤ j) : lensKP d i ≤ lensKP d j := by
  induction j with
  | zero => rw [show i = 0 by omega]; exact Nat.le_refl _
  | succ j ih =>
    by_cases hc : i = j + 1
    · rw [hc]; exact Nat.le_refl _
    · have := ih (by omega); rw [lensKP]; omega
theorem lensKP_row (d : List (List (Int × Int))) {k n : Nat} (h : k < n) : (d.getD k []).length ≤ lensKP d n := by
  have := lensKP_mono d (show k + 1 ≤ n by omega); rw [lensKP] at this; omega

/-- (A, n) reads as the rows d, below block hi -/
def RdRP (w : World) (hi : Nat) (A : Option Addr) (n : Nat) (vs : List Value) (d : List (List (Int × Int))) : Prop :=
  Rd w hi 1 A n vs ∧ d.length = n ∧ ∀ i, i < n → RdPointS w hi (vs.getD i undef) (d.getD i [])
section
variable {w w' : World} {lo hi lo' hi' n c k g : Nat} {A : Option Addr} {vs : List Value} {d : List (List (Int × Int))}
theorem RdRP.row (h : RdRP w hi A n vs d) (hk : k < n) : ∃ (a : Addr) (Ai : Option Addr) (ni ci : Nat), A = some a ∧ a.block < hi ∧ w.cell? (a.add k) = some (.slice Ai ni ci) ∧ RdPointS w hi (.slice Ai ni ci) (d.getD k []) ∧ ni ≤ 9223372036854775807 ∧ (d.getD k []).length = ni := by
  obtain ⟨h1, h2, h3⟩ := h
  obtain ⟨a, e, hb, hc⟩ := h1.2 (by omega)
  have hl := h1.1
  have hr := h3 k hk
  obtain ⟨Ai, ni, ci, e2, hn, r⟩ := h3 k hk
  refine ⟨a, Ai, ni, ci, e, hb, ?_, ?_, hn, r.plen⟩
  · rw [← e2]; exact hc k _ (getD_get (by omega))
  · rw [← e2]; exact hr
theorem RdRP.keep (h : RdRP w hi A n vs d) (hb : Below hi w w') : RdRP w' hi A n vs d := ⟨h.1.below hb, h.2.1, fun i hi' => (h.2.2 i hi').below hb⟩
theorem RdRP.more (h : RdRP w hi A n vs d) (hh : hi ≤ hi') : RdRP w hi' A n vs d := ⟨h.1.more hh, h.2.1, fun i hi' => (h.2.2 i hi').more hh⟩
end

/-- the first k rows copied, the others still nil -/
def copyRP (d : List (List (Int × Int))) (n k : Nat) : List (List (Int × Int)) := d.take k ++ List.replicate (n - k) []
theorem copyRP_get (d : List (List (Int × Int))) (n k i : Nat) (h : d.length = n) (hk : k ≤ n) : (copyRP d n k).getD i [] = if i < k then d.getD i [] else [] := by
  unfold copyRP
  simp only [List.getD_eq_getElem?_getD, List.getElem?_append, List.length_take, List.getElem?_take, List.getElem?_replicate]
  by_cases h1 : i < k
  · rw [if_pos (by omega), if_pos h1, if_pos h1]
  · rw [if_neg (by omega), if_neg h1]
    by_cases h2 : i - min k d.length < n - k
    · rw [if_pos h2]; rfl
    · rw [if_neg h2]; rfl
theorem copyRP_all (d : List (List (Int × Int))) (n : Nat) (h : d.length = n) : copyRP d n n = d := by
  unfold copyRP; rw [List.take_of_length_le (by omega), Nat.sub_self]; simp

/-- rows marked one behind the other -/
def mkRowP (K : Int) (d : List (List (Int × Int))) (i : Nat) : List (Int × Int) := iotaP (K + 2 * lensKP d i) (d.getD i []).length
def mkPointSS (K : Int) (d : List (List (Int × Int))) : List (List (Int × Int)) := (List.range d.length).map (mkRowP K d)
def markRP (K : Int) (d : List (List (Int × Int))) (k : Nat) : List (List (Int × Int)) := (List.range d.length).map fun i => if i < k then mkRowP K d i else d.getD i []
theorem markRP_get (K : Int) (d : List (List (Int × Int))) (k i : Nat) (h : i < d.length) : (markRP K d k).getD i [] = if i < k then mkRowP K d i else d.getD i [] := by simp [markRP, h]
theorem mkPointSS_get (K : Int) (d : List (List (Int × Int))) (i : Nat) (h : i < d.length) : (mkPointSS K d).getD i [] = mkRowP K d i := by simp [mkPointSS, h]
theorem mkRowP_len (K : Int) (d : List (List (Int × Int))) (i : Nat) : (mkRowP K d i).length = (d.getD i []).length := by rw [mkRowP, iotaP_length]
theorem markRP_length (K : Int) (d : List (List (Int × Int))) (k : Nat) : (markRP K d k).length = d.length := by simp [markRP]
theorem mkPointSS_length (K : Int) (d : List (List (Int × Int))) : (mkPointSS K d).length = d.length := by simp [mkPointSS]
theorem ext_rowsP {p q : List (List (Int × Int))} (hl : p.length = q.length) (h : ∀ j, j < p.length → p.getD j [] = q.getD j []) : p = q := by
  apply List.ext_getElem hl
  intro j h1 h2
  have := h j h1
  simpa [h1, h2] using this
theorem markRP_0 (K : Int) (d : List (List (Int × Int))) : markRP K d 0 = d := ext_rowsP (markRP_length _ _ _) fun j hj => by rw [markRP_length] at hj; rw [markRP_get _ _ _ _ hj, if_neg (by omega)]
theorem markRP_n (K : Int) (d : List (List (Int × Int))) : markRP K d d.length = mkPointSS K d := ext_rowsP (by rw [markRP_length, mkPointSS_length]) fun j hj => by rw [markRP_length] at hj; rw [markRP_get _ _ _ _ hj, if_pos hj, mkPointSS_get _ _ _ hj]
theorem markRP_succ (K : Int) (d : List (List (Int × Int))) (k : Nat) (_hk : k < d.length) : (markRP K d k).set k (mkRowP K d k) = markRP K d (k + 1) := by
  refine ext_rowsP (by simp [markRP_length]) fun j hj => ?_
  rw [List.length_set, markRP_length] at hj
  rw [markRP_get _ _ _ _ hj]
  simp only [List.getD_eq_getElem?_getD, List.getElem?_set, markRP_length]
  by_cases hc : k = j
  · subst hc; rw [if_pos rfl, if_pos hj, if_pos (by omega)]; rfl
  · rw [if_neg hc, ← List.getD_eq_getElem?_getD, markRP_get _ _ _ _ hj]
    by_cases h2 : j < k
    · rw [if_pos h2, if_pos (by omega)]
    · rw [if_neg h2, if_neg (by omega)]; rfl

/-- the size: the rows and all that they hold -/
def szPointSS (d : List (List (Int × Int))) : Nat := d.length + lensKP d d.length

/-! as whole values -/
def RdPointSS (w : World) (hi : Nat) (v : Value) (d : List (List (Int × Int))) : Prop := ∃ A n c vs, v = .slice A n c ∧ n ≤ 9223372036854775807 ∧ RdRP w hi A n vs d
section
variable {w w' : World} {lo hi lo' hi' B mid : Nat} {v : Value} {d : List (List (Int × Int))}
theorem RdPointSS.below (h : RdPointSS w hi v d) (hb : Below hi w w') : RdPointSS w' hi v d := by
  obtain ⟨A, n, c, vs, rfl, hn, r⟩ := h; exact ⟨A, n, c, vs, rfl, hn, r.keep hb⟩
theorem RdPointSS.more (h : RdPointSS w hi v d) (hh : hi ≤ hi') : RdPointSS w hi' v d := by
  obtain ⟨A, n, c, vs, rfl, hn, r⟩ := h; exact ⟨A, n, c, vs, rfl, hn, r.more hh⟩
end
theorem mkP_lens (K : Int) (d : List (List (Int × Int))) (k : Nat) (h : k ≤ d.length) : lensKP (mkPointSS K d) k = lensKP d k := by
  induction k with
  | zero => rfl
  | succ k ih => rw [lensKP, lensKP, ih (by omega), mkPointSS_get _ _ _ (by omega), mkRowP_len]
theorem mkP_sz (K : Int) (d : List (List (Int × Int))) : szPointSS (mkPointSS K d) = szPointSS d := by unfold szPointSS; rw [mkPointSS_length, mkP_lens _ _ _ (Nat.le_refl _)]
end Go.Proofs.Ythfkjaofgpgoeaa

/- A struct of one-cell fields among a law's parameters. -/
namespace Go.Proofs.Ythfkjaofgpgoeaa
open Go.ChangeShapes Go.WideShapes Go.ChangeAt Go.RowKit
theorem field_int {H : Type} {enc : TypeId × Value → H} {P : Program} {w : World} {base n : Nat} {sp : Nat → Bool} {held : Bool} {t : TypeId} {u : Value} {y : DataW H × List MemPlace} (ht : P.underlying t = some (.int .i64)) (h : DataW.trod enc P w base sp held n t [u] = some y) :
    ∃ z, u = .int .i64 z ∧ (Lit.int .i64 z).wf = true := by
  cases n with
  | zero => simp [DataW.trod] at h
  | succ n =>
    cases u <;> simp [DataW.trod, ht] at h
    obtain ⟨⟨rfl, hw⟩, _⟩ := h
    exact ⟨_, rfl, hw⟩
theorem field_bool {H : Type} {enc : TypeId × Value → H} {P : Program} {w : World} {base n : Nat} {sp : Nat → Bool} {held : Bool} {t : TypeId} {u : Value} {y : DataW H × List MemPlace} (ht : P.underlying t = some .bool) (h : DataW.trod enc P w base sp held n t [u] = some y) :
    ∃ z, u = .bool z := by
  cases n with
  | zero => simp [DataW.trod] at h
  | succ n =>
    cases u <;> simp [DataW.trod, ht] at h
    exact ⟨_, rfl⟩
end Go.Proofs.Ythfkjaofgpgoeaa

/- Arguments that are structs with lists, opened. -/
namespace Go.Proofs.Ythfkjaofgpgoeaa
open Go.ChangeShapes Go.WideShapes Go.ChangeAt Go.RowKit
set_option maxRecDepth 100000

section
variable {H : Type} {enc : TypeId × Value → H} {P : Program} {w : World}
theorem row_lt {a : Addr} {K : Nat} {u : Value} (h : w.cell? (a.add K) = some u) : a.block < w.heap.size := by
  have := World.block_lt_of_cell? (a := a.add K) _ h
  rw [add_block] at this; exact this

/-- a list of structs of K ints -/
theorem open_flat (K : Nat) (hK : 0 < K) {t e : TypeId} {fs : Array Field} {fuel : Nat} {cs : List Value} {x : DataW H × List MemPlace} (ht : P.underlying t = some (.slice e)) (he : P.underlying e = some (.struct fs)) (ce : P.cellsOf e = K)
    (hf : ∀ j, j < K → ∃ f, fs[j]? = some f ∧ f.offset = j ∧ P.cellsOf f.type = 1 ∧ P.underlying f.type = some (.int .i64)) (h : DataW.trod enc P w 0 (fun _ => true) true fuel t cs = some x) :
    ∃ A n c, cs = [.slice A n c] ∧ n ≤ 9223372036854775807 ∧ (0 < n → ∃ a, A = some a ∧ a.block < w.heap.size) ∧ ∃ Z : Nat → Nat → Int, ∀ a, A = some a → ∀ i, i < n → ∀ j, j < K → w.cell? (a.add (i * K + j)) = some (.int .i64 (Z i j)) := by
  rcases Go.Deep.open_slice ht h with ⟨rfl, _⟩ | ⟨a, len, cap, m, n, D, Pl, rfl, _, hl, hm, hmm, _, hx⟩
  · exact ⟨_, _, _, rfl, by omega, fun h => by omega, fun _ _ => 0, fun a ha => by cases ha⟩
  · simp only [if_true] at hmm
    unfold maxLen at hm
    have each : ∀ i, i < len → ∃ z : Nat → Int, ∀ j, j < K → w.cell? (a.add (i * K + j)) = some (.int .i64 (z j)) := by
      intro i hi
      obtain ⟨cs', h1, h2⟩ := hx i (by omega)
      rw [ce] at h1
      obtain ⟨_, hlen, hcell⟩ := World.cells?_some h1
      obtain ⟨xs, k, hk, _, _, hxl, hf2⟩ := DataW.trod_struct he h2
      refine ⟨fun j => intOf (cs'.getD j undef), fun j hj => ?_⟩
      obtain ⟨f, f1, f2, f3, f4⟩ := hf j hj
      have g := hf2 j f f1
      have hjx : j < xs.length := by
        rw [hxl]
        exact (Array.getElem?_eq_some_iff.1 f1).1
      rw [f2, f3, List.getElem?_eq_getElem hjx] at g
      have hjl : j < cs'.length := by omega
      have e0 : cs'[j]? = some (cs'.getD j undef) := by rw [List.getD_eq_getElem?_getD, List.getElem?_eq_getElem hjl]; rfl
      have e1 : (cs'.drop j).take 1 = [cs'.getD j undef] := by
        rw [List.drop_eq_getElem_cons hjl, List.take_succ_cons, List.take_zero, List.getD_eq_getElem?_getD, List.getElem?_eq_getElem hjl]; rfl
      rw [e1] at g
      obtain ⟨z, e2, _⟩ := DataW.trod_int f4 g
      have e3 : cs'.getD j undef = .int .i64 z := by injection e2
      have e4 := hcell j hj
      rw [Go.Deep.add_add] at e4
      rw [e4, e0]
      show some (cs'.getD j undef) = some (.int .i64 (intOf (cs'.getD j undef)))
      rw [e3]; rfl
    obtain ⟨Z, hZ⟩ := Go.Deep.choose_lt each
    refine ⟨some a, len, cap, rfl, by omega, fun h0 => ⟨a, rfl, row_lt (hZ 0 h0 0 hK)⟩, Z, fun b hb i hi j hj => ?_⟩
    injection hb with hb; subst hb
    exact hZ i hi j hj

theorem field_GateS {t e : TypeId} {f0 f1 f2 : Field} {n : Nat} {u : Value} {y : DataW H × List MemPlace} (ht : P.underlying t = some (.slice e)) (he : P.underlying e = some (.struct #[f0, f1, f2])) (ce : P.cellsOf e = 3)
    (o0 : f0.offset = 0) (o1 : f1.offset = 1) (o2 : f2.offset = 2) (c0 : P.cellsOf f0.type = 1) (c1 : P.cellsOf f1.type = 1) (c2 : P.cellsOf f2.type = 1) (t0 : P.underlying f0.type = some (.int .i64)) (t1 : P.underlying f1.type = some (.int .i64)) (t2 : P.underlying f2.type = some (.int .i64))
    (h : DataW.trod enc P w 0 (fun _ => true) true n t [u] = some y) : ∃ A n c d, u = .slice A n c ∧ RdGateS w w.heap.size (.slice A n c) d := by
  obtain ⟨A, n, c, hu, hn, hb, Z, hZ⟩ := open_flat 3 (by omega) ht he ce (fun j hj => by
    match j, hj with
    | 0, _ => exact ⟨f0, rfl, o0, c0, t0⟩
    | 1, _ => exact ⟨f1, rfl, o1, c1, t1⟩
    | 2, _ => exact ⟨f2, rfl, o2, c2, t2⟩) h
  refine ⟨A, n, c, (List.range n).map fun i => (Z i 0, Z i 1, Z i 2), by simpa using hu, A, n, c, rfl, hn, by rw [cGate_length]; simp, fun h0 => ?_⟩
  obtain ⟨a, rfl, hab⟩ := hb h0
  refine ⟨a, rfl, hab, fun j v hv => ?_⟩
  have hj : j < n * 3 := by
    have := (List.getElem?_eq_some_iff.1 hv).1
    rw [cGate_length] at this; simpa using this
  have h2 : j = (j / 3) * 3 + 0 ∨ j = (j / 3) * 3 + 1 ∨ j = (j / 3) * 3 + 2 := by omega
  have hk : j / 3 < n := by omega
  generalize j / 3 = k at h2 hk
  rcases h2 with rfl | rfl | rfl
  · rw [hZ a rfl k hk 0 (by omega), ← hv, Nat.add_zero, cGate_get0 _ _ (by simpa using hk)]; simp [hk]
  · rw [hZ a rfl k hk 1 (by omega), ← hv, cGate_get1 _ _ (by simpa using hk)]; simp [hk]
  · rw [hZ a rfl k hk 2 (by omega), ← hv, cGate_get2 _ _ (by simpa using hk)]; simp [hk]

theorem field_IntS {t e : TypeId} {n : Nat} {u : Value} {y : DataW H × List MemPlace} (ht : P.underlying t = some (.slice e)) (he : P.underlying e = some (.int .i64)) (hc : P.cellsOf e = 1)
    (h : DataW.trod enc P w 0 (fun _ => true) true n t [u] = some y) : ∃ A n c d, u = .slice A n c ∧ RdIntS w w.heap.size (.slice A n c) d := by
  rcases open_ints ht he hc h with ⟨hn, _⟩ | ⟨a, len, cap, zs, hs, _, hlc, hm, hlen, _, hcell, _⟩
  · have : u = .slice none 0 0 := by simpa using hn
    exact ⟨_, _, _, [], this, _, _, _, rfl, by omega, by simp [cI], fun h => by omega⟩
  · have : u = .slice (some a) len cap := by simpa using hs
    simp only [if_true] at hlen
    unfold maxLen at hm
    refine ⟨_, _, _, zs.take len, this, _, _, _, rfl, by omega, by rw [cI_length, List.length_take]; omega, fun hn => ⟨a, rfl, row_lt (hcell 0 (by omega)), fun j v hv => ?_⟩⟩
    have hj : j < len := by
      have := (List.getElem?_eq_some_iff.1 hv).1
      rw [cI_length, List.length_take] at this; omega
    rw [hcell j (by omega), ← hv, cI_get _ _ (by rw [List.length_take]; omega)]
    simp [hj]

theorem field_PointS {t e : TypeId} {f0 f1 : Field} {n : Nat} {u : Value} {y : DataW H × List MemPlace} (ht : P.underlying t = some (.slice e)) (he : P.underlying e = some (.struct #[f0, f1])) (ce : P.cellsOf e = 2)
    (o0 : f0.offset = 0) (o1 : f1.offset = 1) (c0 : P.cellsOf f0.type = 1) (c1 : P.cellsOf f1.type = 1) (t0 : P.underlying f0.type = some (.int .i64)) (t1 : P.underlying f1.type = some (.int .i64))
    (h : DataW.trod enc P w 0 (fun _ => true) true n t [u] = some y) : ∃ A n c d, u = .slice A n c ∧ RdPointS w w.heap.size (.slice A n c) d := by
  obtain ⟨A, n, c, hu, hn, hb, Z, hZ⟩ := open_flat 2 (by omega) ht he ce (fun j hj => by
    match j, hj with
    | 0, _ => exact ⟨f0, rfl, o0, c0, t0⟩
    | 1, _ => exact ⟨f1, rfl, o1, c1, t1⟩) h
  refine ⟨A, n, c, (List.range n).map fun i => (Z i 0, Z i 1), by simpa using hu, A, n, c, rfl, hn, by rw [cP_length]; simp, fun h0 => ?_⟩
  obtain ⟨a, rfl, hab⟩ := hb h0
  refine ⟨a, rfl, hab, fun j v hv => ?_⟩
  have hj : j < n * 2 := by
    have := (List.getElem?_eq_some_iff.1 hv).1
    rw [cP_length] at this; simpa using this
  have h2 : j = (j / 2) * 2 + 0 ∨ j = (j / 2) * 2 + 1 := by omega
  have hk : j / 2 < n := by omega
  generalize j / 2 = k at h2 hk
  rcases h2 with rfl | rfl
  · rw [hZ a rfl k hk 0 (by omega), ← hv, Nat.add_zero, cP_get1 _ _ (by simpa using hk)]; simp [hk]
  · rw [hZ a rfl k hk 1 (by omega), ← hv, cP_get2 _ _ (by simpa using hk)]; simp [hk]

theorem field_PointSS {t t' e : TypeId} {f0 f1 : Field} {n : Nat} {u : Value} {y : DataW H × List MemPlace} (ht : P.underlying t = some (.slice t')) (ct : P.cellsOf t' = 1) (ht' : P.underlying t' = some (.slice e)) (he : P.underlying e = some (.struct #[f0, f1])) (ce : P.cellsOf e = 2)
    (o0 : f0.offset = 0) (o1 : f1.offset = 1) (c0 : P.cellsOf f0.type = 1) (c1 : P.cellsOf f1.type = 1) (t0 : P.underlying f0.type = some (.int .i64)) (t1 : P.underlying f1.type = some (.int .i64))
    (h : DataW.trod enc P w 0 (fun _ => true) true n t [u] = some y) : ∃ A n c d, u = .slice A n c ∧ RdPointSS w w.heap.size (.slice A n c) d := by
  rcases Go.Deep.open_slice ht h with ⟨hu, _⟩ | ⟨a, len, cap, m, n, D, Pl, hu, _, hl, hm, hmm, _, hx⟩
  · have : u = .slice none 0 0 := by simpa using hu
    exact ⟨_, _, _, [], this, _, _, _, [], rfl, by omega, ⟨rfl, fun h => by omega⟩, rfl, fun i hi => by omega⟩
  · have hu2 : u = .slice (some a) len cap := by simpa using hu
    simp only [if_true] at hmm
    unfold maxLen at hm
    have each : ∀ i, i < len → ∃ q : Value × List (Int × Int), w.cell? (a.add i) = some q.1 ∧ RdPointS w w.heap.size q.1 q.2 := by
      intro i hi
      obtain ⟨cs', h1, h2⟩ := hx i (by omega)
      rw [ct] at h1
      obtain ⟨_, hlen, hcell⟩ := World.cells?_some h1
      match cs', hlen with
      | [v], _ =>
        obtain ⟨A, n, c, d, rfl, r⟩ := field_PointS ht' he ce o0 o1 c0 c1 t0 t1 h2
        refine ⟨(_, d), ?_, r⟩
        have := hcell 0 (by omega)
        rw [Nat.mul_one, Go.Deep.add_add, Nat.add_zero] at this
        simpa using this
    obtain ⟨q, hq⟩ := Go.Deep.choose_lt each
    refine ⟨_, _, _, (List.range len).map fun i => (q i).2, hu2, _, _, _, (List.range len).map fun i => (q i).1, rfl, by omega, ⟨by simp, fun h0 => ⟨a, rfl, row_lt (hq 0 h0).1, fun j v hv => ?_⟩⟩, by simp, fun i hi => ?_⟩
    · have hj : j < len := by
        have := (List.getElem?_eq_some_iff.1 hv).1
        simpa using this
      simp [hj] at hv
      rw [← hv]; exact (hq j hj).1
    · simp only [List.getD_eq_getElem?_getD, List.getElem?_map, List.getElem?_range hi, Option.map_some, Option.getD_some]
      exact (hq i hi).2
end
end Go.Proofs.Ythfkjaofgpgoeaa
