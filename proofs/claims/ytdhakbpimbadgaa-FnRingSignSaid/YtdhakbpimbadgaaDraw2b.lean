/- What the plain laws draw from bytes: a reader opened. -/
import Derived.Test.YtdhakbpimbadgaaDraw2
namespace Go.Proofs.Ytdhakbpimbadgaa
open Go.RowKit
set_option maxRecDepth 100000

theorem Rd.cutU {w : World} {hi n k : Nat} {A : Option Addr} {bs : List Int} (h : Rd w hi 1 A n (cU bs)) (hk : k ≤ n) : Rd w hi 1 A k (cU (bs.take k)) := by
  have hl : bs.length = n := by have := h.1; rw [cU_length] at this; omega
  refine ⟨by rw [cU_length, List.length_take]; omega, fun h0 => ?_⟩
  obtain ⟨a, e, hb, hc⟩ := h.2 (by omega)
  refine ⟨a, e, hb, fun j u hj => hc j u ?_⟩
  rw [← hj]
  have hjk : j < k := by
    have := (List.getElem?_eq_some_iff.1 hj).1
    rw [cU_length, List.length_take] at this; omega
  simp only [cU, List.map_take]
  rw [List.getElem?_take, if_pos hjk]
theorem Byt.take {bs : List Int} (h : Byt bs) (k : Nat) : Byt (bs.take k) := fun j => by
  have := h j
  simp only [List.getD_eq_getElem?_getD, List.getElem?_take] at this ⊢
  split
  · exact this
  · simp
theorem rdr_new (w : World) (A : Option Addr) (n c : Nat) (bs : List Int) (h : Rd w w.heap.size 1 A n (cU bs)) (hb : Byt bs) (hn : n ≤ 2000) : Rdr (w.alloc (.cells #[.slice A n c, .int .i64 0] 127)) w.heap.size w.heap.size 0 A n c bs where
  blk := heap_alloc_new _ _
  rd := h.below ((Below.refl _ _).alloc (Nat.le_refl _) _)
  low := Nat.le_refl _
  len := hn
  few := by omega
  byt := hb

set_option maxHeartbeats 1000000 in
theorem d_l6Open (A : Option Addr) (n c : Nat) (bs : List Int) (w : World) (h : Rd w w.heap.size 1 A n (cU bs)) (hb : Byt bs) (hn : n ≤ 1048576) (hc : n ≤ c) :
    Calls Try.prog 66 #[.slice A n c] w fun e w' => e = .returned (.pointer (some ⟨w.heap.size, 0, none⟩)) ∧ (∃ A' n' c' bs', Rdr w' w.heap.size w.heap.size 0 A' n' c' bs') ∧ Below w.heap.size w w' := by
  by_cases h2 : n ≤ 2000
  · have H := Lib.hid (rdr_new w A n c bs h hb h2)
    have h3 : ¬ ((2000 : Int) < (n : Int)) := by omega
    go_enter Try.func66, Try.ntmps66
    go_wp2
    go_ret
    exact ⟨rfl, ⟨_, _, _, _, H.out⟩, (Below.refl _ _).alloc (Nat.le_refl _) _⟩
  · obtain ⟨a, rfl, hab, _⟩ := h.2 (by omega)
    have H := Lib.hid (rdr_new w (some a) 2000 c (bs.take 2000) (h.cutU (by omega)) (hb.take _) (Nat.le_refl _))
    have h3 : (2000 : Int) < (n : Int) := by omega
    have h4 : (2000 : Int) ≤ (c : Int) := by omega
    go_enter Try.func66, Try.ntmps66
    go_wp2
    go_ret
    exact ⟨rfl, ⟨_, _, _, _, H.out⟩, (Below.refl _ _).alloc (Nat.le_refl _) _⟩

theorem Rdr.move {w w' : World} {g hi p : Nat} {A : Option Addr} {n c : Nat} {bs : List Int} (h : Rdr w g hi p A n c bs) (hb : w'.heap[g]? = w.heap[g]?) (hB : Below hi w w') : Rdr w' g hi p A n c bs where
  blk := hb.trans h.blk
  rd := h.rd.below hB
  low := h.low
  len := h.len
  few := h.few
  byt := h.byt
end Go.Proofs.Ytdhakbpimbadgaa
