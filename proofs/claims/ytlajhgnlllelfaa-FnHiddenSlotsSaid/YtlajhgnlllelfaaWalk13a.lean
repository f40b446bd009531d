/- Chapter 13: HiddenSlots of both sides. -/
import Derived.Test.YtlajhgnlllelfaaFAccess
import Derived.Test.YtlajhgnlllelfaaIdx
import Derived.Test.YtlajhgnlllelfaaBx
import Derived.Test.YtlajhgnlllelfaaAppend
import Derived.Test.YtlajhgnlllelfaaWalk3b
import Derived.BigQuiet
import Derived.Deep.QuietTactic
namespace Go.Proofs.Ytlajhgnlllelfaa
open Go.RowKit
set_option maxRecDepth 100000

abbrev AcD := Bool × Int × Int
def acC (d : List AcD) (j : Nat) : Int := (d.getD j (false, 0, 0)).2.1
/-- the number of the tape that is the latest of a cell, ahead of access k -/
def lastS (d : List AcD) (c : Int) : Nat → Int
  | 0 => c
  | k + 1 => if acC d k = c then 8 + (k : Int) else lastS d c k
/-- the cells of the first k accesses are ones -/
def cellsK (d : List AcD) : Nat → Bool
  | 0 => true
  | k + 1 => cellsK d k && inB (acC d k) 0 7
def slotsL (d : List AcD) (k : Nat) : List Int := (List.range k).map fun j => lastS d (acC d j) j
def slotB (d : List AcD) : Bool := decide (d.length ≤ 40) && cellsK d d.length
def R_HiddenSlots_0 (d : List AcD) : List Int := if slotB d = true then slotsL d d.length else []
theorem slotsL_succ (d : List AcD) (k : Nat) : slotsL d (k + 1) = slotsL d k ++ [lastS d (acC d k) k] := by simp [slotsL, List.range_succ]
theorem slotsL_length (d : List AcD) (k : Nat) : (slotsL d k).length = k := by simp [slotsL]
theorem cellsK_mono {d : List AcD} {k n : Nat} (h : cellsK d n = true) (hk : k ≤ n) : cellsK d k = true := by
  induction n with
  | zero => rw [show k = 0 by omega]; rfl
  | succ n ih =>
    by_cases hc : k = n + 1
    · rw [hc]; exact h
    · rw [cellsK, Bool.and_eq_true] at h; exact ih h.1 (by omega)
theorem cellsK_bad {d : List AcD} {k n : Nat} (h : cellsK d (k + 1) = false) (hk : k < n) : cellsK d n = false := by
  apply Bool.eq_false_iff.2
  intro ht
  rw [cellsK_mono ht (show k + 1 ≤ n by omega)] at h; cases h
theorem lastS_bd (d : List AcD) (c : Int) (k : Nat) (hc : 0 ≤ c ∧ c ≤ 7) : 0 ≤ lastS d c k ∧ lastS d c k ≤ 8 + (k : Int) := by
  induction k with
  | zero => exact ⟨hc.1, by unfold lastS; omega⟩
  | succ k ih => unfold lastS; split <;> omega
/-- the latest of each cell -/
def latL (d : List AcD) (k : Nat) : List Int := (List.range 8).map fun c : Nat => lastS d (c : Int) k
theorem latL_zero (d : List AcD) : latL d 0 = [0, 1, 2, 3, 4, 5, 6, 7] := rfl
theorem latL_length (d : List AcD) (k : Nat) : (latL d k).length = 8 := by simp [latL]
theorem latL_get (d : List AcD) (k c : Nat) (h : c < 8) : (latL d k).getD c 0 = lastS d (c : Int) k := by simp [latL, h]
theorem latL_succ (d : List AcD) (k c : Nat) (hc : acC d k = (c : Int)) (h : c < 8) : latL d (k + 1) = (latL d k).set c (8 + (k : Int)) := by
  apply List.ext_getElem?
  intro j
  rw [List.getElem?_set, latL_length]
  by_cases hj : j < 8
  · simp only [latL, List.getElem?_map, List.getElem?_range hj, Option.map_some]
    have e0 : lastS d (j : Int) (k + 1) = if acC d k = (j : Int) then 8 + (k : Int) else lastS d (j : Int) k := rfl
    rw [e0, hc]
    by_cases e : c = j
    · subst e; simp [h]
    · rw [if_neg (show ¬ (c : Int) = (j : Int) by omega), if_neg e]
  · rw [List.getElem?_eq_none (by rw [latL_length]; omega), List.getElem?_eq_none (by rw [latL_length]; omega)]
    split
    · omega
    · rfl
theorem done_is {w1 : World} {B n c : Nat} {A : Option Addr} {ys : List Int} (h : w1.ownsRow B 3 1 (.slice A n c) n (cI ys)) (hs : n ≤ 1048576) : OwIntS w1 B w1.heap.size (.slice A n c) ys := by
  obtain ⟨A', c', he, ho⟩ := Ow.of_own h
  injection he with h1 h2 h3
  subst h1 h3
  exact ⟨by have := ho.len; omega, A, n, c, rfl, ho⟩

set_option maxHeartbeats 4000000 in
theorem X_s_HiddenSlots (v : Value) (d : List AcD) (w : World) (h : RdAccessS w w.heap.size v d) (hs : szAccessS d ≤ 1048576) :
    Calls Try.prog 33 #[v] w fun e w' => ∃ g, e = .returned g ∧ OwIntS w' w.heap.size w'.heap.size g (R_HiddenSlots_0 d) ∧ Below w.heap.size w w' := by
  obtain ⟨A, n, c, rfl, _, h⟩ := h
  have hn : n ≤ 1048576 := by have := h.Accesslen; unfold szAccessS at hs; omega
  have HL := Lib.hid h.Accesslen
  have HR := Lib.hid h
  clear h hs
  have no : slotB d = false → Hid (R_HiddenSlots_0 d = []) := fun h => Lib.hid (by unfold R_HiddenSlots_0; rw [h]; rfl)
  have HO0 : Hid ((w.alloc (.cells #[] 3)).ownsRow w.heap.size 3 1 (.slice (some ⟨w.heap.size, 0, none⟩) 0 0) 0 (cI (slotsL d 0))) := Lib.hid (own_empty w _ 1)
  have HB0 : Hid (Below w.heap.size w (w.alloc (.cells #[] 3))) := Lib.hid ((Below.refl _ _).alloc (Nat.le_refl _) _)
  by_cases h40 : 40 < n
  · have HF := no (by unfold slotB; rw [HL.out, decide_eq_false (by omega)]; rfl)
    have q : (40 : Int) < (n : Int) := by omega
    clear no
    go_enter Try.func33, Try.ntmps33
    go_wp2
    go_ret
    exact ⟨_, rfl, by rw [HF.out]; exact done_is HO0.out (by omega), HB0.out⟩
  have q40 : ¬ (40 : Int) < (n : Int) := by omega
  have HNO := Lib.hid no
  clear no
  go_enter Try.func33, Try.ntmps33
  go_wp2
  go_loopw [3, 4, 5, 6] (fun o i _ _ wr => ∃ (k : Nat) (Ao : Option Addr) (co : Nat), k ≤ n ∧ i = .int .i64 k ∧ o = .slice Ao k co ∧ Hid (wr.ownsRow w.heap.size 3 1 (.slice Ao k co) k (cI (slotsL d k))) ∧ Hid (cellsK d k = true) ∧ Hid (Below w.heap.size w wr)) (fun _ i _ _ _ => n - (intOf i).toNat)
  case atStart => exact ⟨0, _, 0, Nat.zero_le _, rfl, rfl, HO0, Lib.hid rfl, HB0⟩
  case round =>
    clear HO0 HB0
    obtain ⟨k, Ao, co, hk, rfl, rfl, HO, HC, HB⟩ := hrel
    by_cases hlt : k < n
    · obtain ⟨a, x, y, z, hA, hab, hx0, hy0, hz0, HP⟩ := HR.out.AccessAt hlt
      subst hA
      have HY : Hid (acC d k = y) := Lib.hid (by unfold acC; rw [HP.out])
      have hy := (HB.out.cell (p := ⟨(a.add (k * 3)).block, (a.add (k * 3)).off + 1, none⟩) (by rw [add_block]; exact hab)).trans hy0
      have i0 : (0 : Int) ≤ (k : Int) := by omega
      have i1 : (k : Int) < (n : Int) := by omega
      clear hx0 hz0
      go_wp2_with fail
      refine (s_l6In _ _ _ _).mono ?_
      rintro e w2 ⟨rfl, rfl⟩
      have hzw := HB.out.size
      cases e1 : inB y 0 7
      · have HF := HNO.out (by unfold slotB; rw [HL.out, cellsK_bad (k := k) (by rw [cellsK, HY.out, e1, Bool.and_false]) hlt, Bool.and_false])
        have HN : Hid ((wr.alloc (.cells #[] 3)).ownsRow wr.heap.size 3 1 (.slice (some ⟨wr.heap.size, 0, none⟩) 0 0) 0 (cI [])) := Lib.hid (own_empty wr _ 1)
        clear e1
        go_wp2
        go_ret
        exact ⟨_, rfl, by rw [HF.out]; exact (done_is HN.out (by omega)).widen hzw (Nat.le_refl _), HB.out.alloc hzw _⟩
      · have HC2 : Hid (cellsK d (k + 1) = true) := Lib.hid (by rw [cellsK, HC.out, HY.out, e1]; rfl)
        obtain ⟨y0, y7⟩ := inB_iff.1 e1
        have HY0 := Lib.hid hy0
        clear e1 hy0
        obtain ⟨wo, rfl⟩ : ∃ wo : World, wo = wr := ⟨_, rfl⟩
        go_wp2
        go_loopw [5, 6] (fun s i wr => ∃ (j : Nat) (S : Int) (m : Nat), j ≤ k ∧ i = .int .i64 j ∧ s = .int .i64 S ∧ Hid (S = lastS d y j) ∧ wr = wo.drewN m) (fun _ i _ => k - (intOf i).toNat)
        case atStart => exact ⟨0, y, 0, Nat.zero_le _, rfl, rfl, Lib.hid rfl, rfl⟩
        case round =>
          obtain ⟨j, S, m, hj, rfl, rfl, HS, rfl⟩ := hrel
          by_cases hjk : j < k
          · obtain ⟨a', x', u, z', hA, hab', _, hu0, _, HP'⟩ := HR.out.AccessAt (show j < n by omega)
            injection hA with hA
            subst hA
            have HU : Hid (acC d j = u) := Lib.hid (by unfold acC; rw [HP'.out])
            have hu := (HB.out.cell (p := ⟨(a.add (j * 3)).block, (a.add (j * 3)).off + 1, none⟩) (by rw [add_block]; exact hab)).trans hu0
            have j0 : (0 : Int) ≤ (j : Int) := by omega
            have j1 : (j : Int) < (n : Int) := by omega
            have j2 : (j : Int) < (k : Int) := by omega
            by_cases he : u = y
            · have HS2 : Hid (8 + (j : Int) = lastS d y (j + 1)) := Lib.hid (by rw [lastS, HU.out, if_pos he])
              have hb : (u == y) = true := by simp [he]
              clear he hu0 HS
              go_wp2
              go_quiet (fail)
              go_wp2
              go_roundw
              case rel => exact ⟨j + 1, _, _, by omega, by go_num, rfl, HS2, rfl⟩
              case measure => simp [intOf] <;> omega
            · have HS2 : Hid (S = lastS d y (j + 1)) := Lib.hid (by rw [lastS, HU.out, if_neg he]; exact HS.out)
              have hb : (u == y) = false := by rw [beq_eq_false_iff_ne]; exact he
              clear he hu0 HS
              go_wp2
              go_quiet (fail)
              go_wp2
              go_roundw
              case rel => exact ⟨j + 1, _, _, by omega, by go_num, rfl, HS2, rfl⟩
              case measure => simp [intOf] <;> omega
          · obtain rfl : j = k := by omega
            have HSL : Hid (slotsL d (j + 1) = slotsL d j ++ [S]) := Lib.hid (by rw [slotsL_succ, HY.out, HS.out])
            have HOd : Hid ((wo.drewN m).ownsRow w.heap.size 3 1 (.slice Ao j co) j (cI (slotsL d j))) := Lib.hid HO.out
            have HBd : Hid (Below w.heap.size w (wo.drewN m)) := Lib.hid (below_drewN HB.out _)
            obtain ⟨wd, hwd⟩ : ∃ wd, wo.drewN m = wd := ⟨_, rfl⟩
            rw [hwd] at HOd HBd ⊢
            have hzd := HBd.out.size
            clear hwd
            go_wp2_with (at_builtin
                         refine wpList_append_rd rfl (.tmp 49) (.tmp 51) _ rfl w.heap.size 3 _ 1 8 Try.underlying24 info_int rfl (by decide) (.slice Ao j co) j _ rfl (HOd.out.alloc _) _ _ 1 1 (cI [S]) rfl (lit_at (heap_alloc_new _ _)) (cI_one _) (by unfold maxLen; omega) (by omega) (by simp; omega) ?_
                         intro v6 w6 hown hgr hat
                         obtain ⟨A6, c6, hv6, ho6⟩ := Ow.of_own hown
                         subst hv6
                         have HO6 : Hid (w6.ownsRow w.heap.size 3 1 (.slice A6 (j + 1) c6) (j + 1) (cI (slotsL d (j + 1)))) := Lib.hid (by rw [HSL.out]; simp only [cI, List.map_append]; exact hown)
                         have HB6 : Hid (Below w.heap.size w w6) := Lib.hid (below_grown (HBd.out.alloc hzd _) hgr (own_block HOd.out) (by simp; omega))
                         clear hown hgr hat ho6)
            go_roundw
            case rel => exact ⟨j + 1, A6, c6, by omega, by go_num, rfl, HO6, HC2, HB6⟩
            case measure => simp [intOf] <;> omega
    · obtain rfl : k = n := by omega
      have HF : Hid (R_HiddenSlots_0 d = slotsL d k) := Lib.hid (by unfold R_HiddenSlots_0 slotB; rw [HL.out, HC.out, decide_eq_true (by omega)]; rfl)
      have HOr := Lib.hid (done_is HO.out (by omega))
      go_wp2
      go_ret
      exact ⟨_, rfl, by rw [HF.out]; exact HOr.out, HB.out⟩
end Go.Proofs.Ytlajhgnlllelfaa
