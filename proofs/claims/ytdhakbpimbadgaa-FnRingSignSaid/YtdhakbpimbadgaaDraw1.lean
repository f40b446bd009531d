/- What the plain laws draw from bytes: the reader, its pick. -/
import Derived.Test.YtdhakbpimbadgaaBase
import Derived.Test.YtdhakbpimbadgaaAppend
import Derived.Test.YtdhakbpimbadgaaRows
import Derived.BigQuiet
import Derived.Deep.QuietTactic
namespace Go.Proofs.Ytdhakbpimbadgaa
open Go.RowKit
set_option maxRecDepth 100000

def cU (bs : List Int) : List Value := bs.map fun z => .int .u8 z
theorem cU_length (bs : List Int) : (cU bs).length = bs.length := by simp [cU]
def Byt (bs : List Int) : Prop := ∀ j, 0 ≤ bs.getD j 0 ∧ bs.getD j 0 ≤ 255
/-- A reader at block g that has picked p times, over bytes that lie below hi. -/
structure Rdr (w : World) (g hi p : Nat) (A : Option Addr) (n c : Nat) (bs : List Int) : Prop where
  blk : w.heap[g]? = some (.cells #[.slice A n c, .int .i64 p] 127 (0, 0))
  rd : Rd w hi 1 A n (cU bs)
  low : hi ≤ g
  len : n ≤ 2000
  few : p ≤ 1000000
  byt : Byt bs
theorem Rd.byteAt {w : World} {hi n k : Nat} {A : Option Addr} {bs : List Int} (h : Rd w hi 1 A n (cU bs)) (hb : Byt bs) (hk : k < n) :
    ∃ (a : Addr) (z : Int), A = some a ∧ a.block < hi ∧ w.cell? (a.add k) = some (.int .u8 z) ∧ 0 ≤ z ∧ z ≤ 255 := by
  obtain ⟨a, e, hbk, hc⟩ := h.2 (by omega)
  have hl : bs.length = n := by have := h.1; rw [cU_length] at this; omega
  refine ⟨a, bs.getD k 0, e, hbk, hc _ _ ?_, hb k⟩
  simp [cU, show k < bs.length by omega]
theorem Rdr.step {w : World} {g hi p : Nat} {A : Option Addr} {n c : Nat} {bs : List Int} (h : Rdr w g hi p A n c bs) (hp : p < 1000000) : Rdr (w.setCell ⟨g, 1, none⟩ (.int .i64 ((p : Int) + 1))) g hi (p + 1) A n c bs where
  blk := heap_setCell_same w g 1 _ _ _ h.blk
  rd := h.rd.below ((Below.refl hi w).setCell (p := ⟨g, 1, none⟩) h.low _)
  low := h.low
  len := h.len
  few := by omega
  byt := h.byt
theorem Rdr.drewN {w : World} {g hi p : Nat} {A : Option Addr} {n c : Nat} {bs : List Int} (h : Rdr w g hi p A n c bs) (m : Nat) : Rdr (w.drewN m) g hi p A n c bs where
  blk := h.blk
  rd := h.rd.below (below_drewN (Below.refl hi w) m)
  low := h.low
  len := h.len
  few := h.few
  byt := h.byt

theorem bits_xor_i64_nat (a b : Nat) (ha : a < 4611686018427387904) (hb : b < 4611686018427387904) :
    bits .xor .i64 (a : Int) (b : Int) = ((a ^^^ b : Nat) : Int) := by
  have hx : a ^^^ b < 2 ^ 62 := Nat.xor_lt_two_pow (by omega) (by omega)
  have h1 : (BitVec.ofInt 64 (a : Int)).toNat = a := by
    rw [BitVec.ofInt_natCast, BitVec.toNat_ofNat]; exact Nat.mod_eq_of_lt (by omega)
  have h2 : (BitVec.ofInt 64 (b : Int)).toNat = b := by
    rw [BitVec.ofInt_natCast, BitVec.toNat_ofNat]; exact Nat.mod_eq_of_lt (by omega)
  show IntKind.i64.wrap ((BitVec.ofInt 64 (a : Int) ^^^ BitVec.ofInt 64 (b : Int)).toNat : Int) = _
  rw [BitVec.toNat_xor, h1, h2]
  exact IntWalk.i64_in _ (by omega)
/-- what pick makes of a number beyond the bytes -/
theorem pick_low (x N : Int) (h : 0 ≤ x ∧ x ≤ 1000000000) (hN : 1 ≤ N) :
    0 ≤ (bits .xor .i64 x (wrap64 (x.tdiv 64))).tmod N ∧ (bits .xor .i64 x (wrap64 (x.tdiv 64))).tmod N < N := by
  obtain ⟨a, rfl⟩ := Int.eq_ofNat_of_zero_le h.1
  have h64 : wrap64 ((a : Int).tdiv 64) = ((a / 64 : Nat) : Int) := by
    rw [Int.tdiv_eq_ediv_of_nonneg (by omega), show ((a : Int) / 64) = ((a / 64 : Nat) : Int) by omega]
    exact IntWalk.wrap64_in _ (by omega)
  rw [h64, bits_xor_i64_nat _ _ (by omega) (by omega), Int.tmod_eq_emod_of_nonneg (by omega)]
  exact ⟨Int.emod_nonneg _ (by omega), Int.emod_lt_of_pos _ (by omega)⟩

set_option maxHeartbeats 2000000 in
theorem d_pick (g hi p : Nat) (A : Option Addr) (n c : Nat) (bs : List Int) (N : Int) (w : World) (h : Rdr w g hi p A n c bs) (hp : p < 1000000) (N1 : 1 ≤ N) (N2 : N ≤ 1000000) :
    Calls Try.prog 105 #[.pointer (some ⟨g, 0, none⟩), .int .i64 N] w fun e w' => ∃ z, e = .returned (.int .i64 z) ∧ 0 ≤ z ∧ z < N ∧ Rdr w' g hi (p + 1) A n c bs ∧ Kept g (g + 1) w w' := by
  have c0 : w.cell? ⟨g, 0, none⟩ = some (.slice A n c) := by rw [cell_of_row w g 0 _ _ _ h.blk]; rfl
  have c1 : w.cell? ⟨g, 1, none⟩ = some (.int .i64 p) := by rw [cell_of_row w g 1 _ _ _ h.blk]; rfl
  have hf : w.frozen? ⟨g, 1, none⟩ = false := by simp [World.frozen?, h.blk]
  have HN := Lib.hid (h.step hp)
  have HK := Lib.hid ((Kept.refl g (g + 1) w).setCell (p := ⟨g, 1, none⟩) (Nat.le_refl _) (Nat.lt_succ_self _) (.int .i64 ((p : Int) + 1)))
  obtain ⟨W, HW⟩ : ∃ W, Hid (w.setCell ⟨g, 1, none⟩ (.int .i64 ((p : Int) + 1)) = W) := ⟨_, Lib.hid rfl⟩
  rw [HW.out] at HN HK
  have d0 : W.cell? ⟨g, 0, none⟩ = some (.slice A n c) := by rw [cell_of_row W g 0 _ _ _ HN.out.blk]; rfl
  have d1 : W.cell? ⟨g, 1, none⟩ = some (.int .i64 ((p : Int) + 1)) := by rw [cell_of_row W g 1 _ _ _ HN.out.blk]; simp
  have D := Lib.hid (And.intro d0 d1)
  have hlen := h.len
  clear d0 d1 h
  by_cases h0 : n = 0
  · subst h0
    go_enter Try.func105, Try.ntmps105
    go_wp2
    go_ret
    rw [HW.out]
    exact ⟨0, rfl, by omega, by omega, HN.out, HK.out⟩
  · have n1 : decide (N < 1) = false := decide_eq_false (by omega)
    have n0 : ((n : Int) == 0) = false := by rw [beq_eq_false_iff_ne]; omega
    by_cases hlt : p < n
    · obtain ⟨a, z, rfl, hab, hz, z0, z1⟩ := HN.out.rd.byteAt HN.out.byt hlt
      rw [← HW.out] at hz
      have i0 : (0 : Int) ≤ (p : Int) := by omega
      have i1 : (p : Int) < (n : Int) := by omega
      have iz : IntKind.i64.wrap z = z := IntWalk.i64_in _ (by omega)
      have im : z.tmod N = z % N := Int.tmod_eq_emod_of_nonneg z0
      have r0 : 0 ≤ z % N := Int.emod_nonneg _ (by omega)
      have r1 : z % N < N := Int.emod_lt_of_pos _ (by omega)
      have N0 : (N == 0) = false := by rw [beq_eq_false_iff_ne]; omega
      go_enter Try.func105, Try.ntmps105
      go_wp2
      go_ret
      rw [HW.out]
      exact ⟨_, rfl, r0, r1, HN.out, HK.out⟩
    · obtain ⟨j1, hj1⟩ : ∃ j1 : Nat, Hid (p % n = j1) := ⟨_, Lib.hid rfl⟩
      obtain ⟨j2, hj2⟩ : ∃ j2 : Nat, Hid ((p * 7 + 3) % n = j2) := ⟨_, Lib.hid rfl⟩
      obtain ⟨q, hq⟩ : ∃ q : Nat, Hid (p / n = q) := ⟨_, Lib.hid rfl⟩
      have l1 : j1 < n := by rw [← hj1.out]; exact Nat.mod_lt _ (by omega)
      have l2 : j2 < n := by rw [← hj2.out]; exact Nat.mod_lt _ (by omega)
      have lq : q ≤ p := by rw [← hq.out]; exact Nat.div_le_self _ _
      obtain ⟨a, z1, rfl, hab, hz1, z10, z11⟩ := HN.out.rd.byteAt HN.out.byt l1
      obtain ⟨a', z2, ha, _, hz2, z20, z21⟩ := HN.out.rd.byteAt HN.out.byt l2
      obtain rfl : a = a' := by injection ha
      have m1 : (p : Int).tmod (n : Int) = (j1 : Int) := by rw [Int.tmod_eq_emod_of_nonneg (by omega), ← hj1.out]; rfl
      have m2 : ((p : Int) * 7 + 3).tmod (n : Int) = (j2 : Int) := by rw [Int.tmod_eq_emod_of_nonneg (by omega), ← hj2.out]; rfl
      have mq : (p : Int).tdiv (n : Int) = (q : Int) := by rw [Int.tdiv_eq_ediv_of_nonneg (by omega), ← hq.out]; rfl
      have i0 : (0 : Int) ≤ (j1 : Int) := by omega
      have i1 : (j1 : Int) < (n : Int) := by omega
      have i2 : (0 : Int) ≤ (j2 : Int) := by omega
      have i3 : (j2 : Int) < (n : Int) := by omega
      have pn : ¬ ((p : Int) < (n : Int)) := by omega
      have e1 : IntKind.i64.wrap z1 = z1 := IntWalk.i64_in _ (by omega)
      have e2 : IntKind.i64.wrap z2 = z2 := IntWalk.i64_in _ (by omega)
      have e3 : IntKind.i64.wrap (z1 * 131) = z1 * 131 := IntWalk.i64_in _ (by omega)
      have e4 : IntKind.i64.wrap ((p : Int) * 7) = (p : Int) * 7 := IntWalk.i64_in _ (by omega)
      have e5 : IntKind.i64.wrap ((p : Int) * 7 + 3) = (p : Int) * 7 + 3 := IntWalk.i64_in _ (by omega)
      have e6 : IntKind.i64.wrap (z2 * 1117) = z2 * 1117 := IntWalk.i64_in _ (by omega)
      have e7 : IntKind.i64.wrap (z1 * 131 + z2 * 1117) = z1 * 131 + z2 * 1117 := IntWalk.i64_in _ (by omega)
      have e8 : IntKind.i64.wrap ((p : Int) * 29) = (p : Int) * 29 := IntWalk.i64_in _ (by omega)
      have e9 : IntKind.i64.wrap (z1 * 131 + z2 * 1117 + (p : Int) * 29) = z1 * 131 + z2 * 1117 + (p : Int) * 29 := IntWalk.i64_in _ (by omega)
      have e10 : IntKind.i64.wrap ((q : Int) * 53) = (q : Int) * 53 := IntWalk.i64_in _ (by omega)
      have e11 : IntKind.i64.wrap (z1 * 131 + z2 * 1117 + (p : Int) * 29 + (q : Int) * 53) = z1 * 131 + z2 * 1117 + (p : Int) * 29 + (q : Int) * 53 := IntWalk.i64_in _ (by omega)
      have e12 : IntKind.i64.wrap (q : Int) = (q : Int) := IntWalk.i64_in _ (by omega)
      obtain ⟨x, hx⟩ : ∃ x : Int, Hid (z1 * 131 + z2 * 1117 + (p : Int) * 29 + (q : Int) * 53 = x) := ⟨_, Lib.hid rfl⟩
      have HX : Hid (0 ≤ x ∧ x ≤ 1000000000) := Lib.hid (by have := hx.out; omega)
      have N0 : (N == 0) = false := by rw [beq_eq_false_iff_ne]; omega
      go_enter Try.func105, Try.ntmps105
      go_wp2
      rw [HW.out]
      obtain ⟨d0, d1⟩ := D.out
      clear c0 c1 hf
      go_quiet (fail)
      clear m1 m2 mq e1 e2 e3 e4 e5 e6 e7 e8 e9 e10 e11 e12
      rw [hx.out]
      go_wp2
      go_ret
      exact ⟨_, rfl, (pick_low x N HX.out N1).1, (pick_low x N HX.out N1).2, HN.out.drewN _, HK.out.drewN _⟩
end Go.Proofs.Ytdhakbpimbadgaa
