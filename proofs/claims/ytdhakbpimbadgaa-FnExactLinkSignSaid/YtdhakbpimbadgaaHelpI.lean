/- The laws' own helpers over lists of ints: a copy, a comparison, a mark, the mark asked for. -/
import Derived.Test.YtdhakbpimbadgaaBase
import Derived.Test.YtdhakbpimbadgaaRows
import Derived.BigQuiet
import Derived.Deep.QuietTactic
namespace Go.Proofs.Ytdhakbpimbadgaa
open Go.RowKit

theorem info_int : (Try.prog.info? 3).map (fun i => (i.zero, i.size, i.bytes)) = some (some (.int .i64 0), 1, 8) := by kernel_rfl
theorem copy_step {zs : List Int} {n k : Nat} (hz : zs.length = n) (hk : k < n) : (zs.take k ++ List.replicate (n - k) 0).set k (zs.getD k 0) = zs.take (k + 1) ++ List.replicate (n - (k + 1)) 0 := by
  have hl : (zs.take k).length = k := by simp; omega
  rw [List.set_append_right _ _ (by omega), hl, Nat.sub_self, show n - k = (n - (k + 1)) + 1 by omega, List.replicate_succ]
  have hk' : k < zs.length := by omega
  rw [List.set_cons_zero, List.take_succ_eq_append_getElem hk', List.append_assoc, List.singleton_append]
  simp [hk']

set_option maxHeartbeats 400000 in
theorem l_toIntS (A : Option Addr) (n c : Nat) (zs : List Int) (w : World) (h : Rd w w.heap.size 1 A n (cI zs)) (hn : n ≤ 1048576) :
    Calls Try.prog 11 #[.slice A n c] w fun e w' => e = .returned (.slice (some ⟨w.heap.size, 0, none⟩) n n) ∧ Ow w' w.heap.size (w.heap.size + 1) 3 1 (some ⟨w.heap.size, 0, none⟩) n n (cI zs) ∧ Below w.heap.size w w' := by
  have hmk := fun W => run_make1 (P := Try.prog) Try.underlying22 info_int rfl n (by omega) (by omega) W
  have hlen : Hid (zs.length = n) := Lib.hid (by have := h.1; rw [cI_length] at this; omega)
  have H := Lib.hid h
  clear h
  go_enter Try.func11, Try.ntmps11
  go_wp2
  go_loopw [4] (fun i wr => ∃ k : Nat, k ≤ n ∧ i = .int .i64 k ∧ Hid (Ow wr w.heap.size (w.heap.size + 1) 3 1 (some ⟨w.heap.size, 0, none⟩) n n (cI (zs.take k ++ List.replicate (n - k) 0))) ∧ Hid (Below w.heap.size w wr)) (fun i _ => n - (intOf i).toNat)
  case atStart => exact ⟨0, Nat.zero_le _, rfl, Lib.hid (by rw [List.take_zero, List.nil_append, Nat.sub_zero, ← cI_zeros]; exact Ow.zeros _ _ _ _), Lib.hid ((Below.refl _ _).alloc (Nat.le_refl _) _)⟩
  case round =>
    obtain ⟨k, hk, rfl, HO, HB⟩ := hrel
    by_cases hlt : k < n
    · obtain ⟨a, rfl, hab, hc⟩ := H.out.int (by omega)
      have hck := (HB.out.cell (p := a.add k) (by rw [add_block]; exact hab)).trans (hc k hlt)
      have hd : wr.cell? ⟨w.heap.size, k, none⟩ = some (.int .i64 ((zs.take k ++ List.replicate (n - k) 0).getD k 0)) := HO.out.cellAt (cI_get _ _ (by simp; have := hlen.out; omega))
      have hf := HO.out.free (by omega) k
      have HO2 := Lib.hid (HO.out.set k (.int .i64 (zs.getD k 0)))
      rw [cI_set, copy_step hlen.out hlt] at HO2
      have HB2 := Lib.hid (HB.out.setCell (p := ⟨w.heap.size, k, none⟩) (Nat.le_refl _) (.int .i64 (zs.getD k 0)))
      clear hc HO HB
      go_wp2
      go_roundw
      case rel => exact ⟨k + 1, by omega, by go_num, HO2, HB2⟩
      case measure => simp [intOf] <;> omega
    · have hkn : k = n := by omega
      have HO2 : Hid (Ow wr w.heap.size (w.heap.size + 1) 3 1 (some ⟨w.heap.size, 0, none⟩) n n (cI zs)) := Lib.hid (by
        have := HO.out; rw [hkn, List.take_of_length_le (by have := hlen.out; omega), Nat.sub_self, List.replicate_zero, List.append_nil] at this; exact this)
      clear HO hkn
      go_wp2
      go_ret
      exact ⟨rfl, HO2.out, HB.out⟩

set_option maxHeartbeats 400000 in
/-- both the same: true -/
theorem l_eqIntS (A A' : Option Addr) (n c c' : Nat) (zs : List Int) (w : World) (h : Rd w w.heap.size 1 A n (cI zs)) (h' : Rd w w.heap.size 1 A' n (cI zs)) (hn : n ≤ 1048576) :
    Calls Try.prog 14 #[.slice A n c, .slice A' n c'] w fun e w' => e = .returned (.bool true) ∧ Still w w' := by
  have H := Lib.hid h
  have H' := Lib.hid h'
  clear h h'
  go_enter Try.func14, Try.ntmps14
  go_wp2
  go_loopw [5] (fun i wr => ∃ k m : Nat, k ≤ n ∧ i = .int .i64 k ∧ wr = w.drewN m) (fun i _ => n - (intOf i).toNat)
  case atStart => exact ⟨0, 0, Nat.zero_le _, rfl, rfl⟩
  case round =>
    obtain ⟨k, m, hk, rfl, rfl⟩ := hrel
    by_cases hlt : k < n
    · obtain ⟨a, rfl, hab, hc⟩ := H.out.int (by omega)
      obtain ⟨a', rfl, hab', hc'⟩ := H'.out.int (by omega)
      have hck := hc k hlt
      have hck' := hc' k hlt
      have i0 : (0 : Int) ≤ (k : Int) := by omega
      have i1 : (k : Int) < (n : Int) := by omega
      clear hc hc'
      go_wp2
      go_quiet (fail)
      go_wp2
      go_roundw
      case rel => exact ⟨k + 1, _, by omega, by go_num, rfl⟩
      case measure => simp [intOf] <;> omega
    · go_wp2
      go_ret
      exact ⟨rfl, m, rfl⟩

/-- the marks: K, K + 1, .. -/
def iota (K : Int) (n : Nat) : List Int := (List.range n).map fun i : Nat => K + (i : Int)
theorem iota_length (K : Int) (n : Nat) : (iota K n).length = n := by simp [iota]
theorem iota_get (K : Int) (n j : Nat) (h : j < n) : (iota K n).getD j 0 = K + j := by simp [iota, h]
theorem iota_succ (K : Int) (n : Nat) : iota K (n + 1) = iota K n ++ [K + n] := by simp [iota, List.range_succ]
/-- the first k marked -/
theorem mark_step {zs : List Int} {n k : Nat} (K : Int) (hz : zs.length = n) (hk : k < n) : (iota K k ++ zs.drop k).set k (K + k) = iota K (k + 1) ++ zs.drop (k + 1) := by
  have hl := iota_length K k
  have hk' : k < zs.length := by omega
  rw [List.set_append_right _ _ (by omega), hl, Nat.sub_self, iota_succ, List.append_assoc, List.drop_eq_getElem_cons hk', List.set_cons_zero, List.singleton_append]
theorem ret_int {k : IntKind} {a b : Int} (h : a = b) : Ending.returned (.int k a) = .returned (.int k b) := by rw [h]

set_option maxHeartbeats 400000 in
theorem l_markIntS (A : Option Addr) (n c lo hi : Nat) (zs : List Int) (K : Int) (w : World) (h : Ow w lo hi 3 1 A n c (cI zs)) (hn : n ≤ 1048576) (hK : 0 ≤ K) (hK2 : K ≤ 1000000000000) :
    Calls Try.prog 15 #[.slice A n c, .int .i64 K] w fun e w' => e = .returned (.int .i64 (K + n)) ∧ Ow w' lo hi 3 1 A n c (cI (iota K n)) ∧ Kept lo hi w w' ∧ w'.heap.size = w.heap.size := by
  have hlen : Hid (zs.length = n) := Lib.hid (by have := h.1; rw [cI_length] at this; omega)
  have H := Lib.hid h
  clear h
  go_enter Try.func15, Try.ntmps15
  go_wp2
  go_loopw [1, 5] (fun kk i wr => ∃ k : Nat, k ≤ n ∧ i = .int .i64 k ∧ kk = .int .i64 (K + k) ∧ Hid (Ow wr lo hi 3 1 A n c (cI (iota K k ++ zs.drop k))) ∧ Hid (Kept lo hi w wr) ∧ Hid (wr.heap.size = w.heap.size)) (fun _ i _ => n - (intOf i).toNat)
  case atStart => exact ⟨0, Nat.zero_le _, rfl, by go_num, H, Lib.hid (Kept.refl _ _ _), Lib.hid rfl⟩
  case round =>
    obtain ⟨k, hk, rfl, rfl, HO, HB, HZ⟩ := hrel
    by_cases hlt : k < n
    · obtain ⟨g, cs, hA, g1, g2, _, _⟩ := HO.out.lt (by omega)
      subst hA
      have hd : wr.cell? ⟨g, k, none⟩ = some (.int .i64 ((iota K k ++ zs.drop k).getD k 0)) := HO.out.cellAt (cI_get _ _ (by simp [iota_length]; have := hlen.out; omega))
      have hf := HO.out.free (by omega) k
      have HO2 := Lib.hid (HO.out.set k (.int .i64 (K + k)))
      rw [cI_set, mark_step K hlen.out hlt] at HO2
      have HB2 := Lib.hid (HB.out.setCell (p := ⟨g, k, none⟩) g1 g2 (.int .i64 (K + k)))
      have HZ2 : Hid ((wr.setCell ⟨g, k, none⟩ (.int .i64 (K + k))).heap.size = w.heap.size) := Lib.hid (by rw [World.size_setCell]; exact HZ.out)
      clear HO HB HZ
      go_wp2
      go_roundw
      case rel => exact ⟨k + 1, by omega, by go_num, by go_num, HO2, HB2, HZ2⟩
      case measure => simp [intOf] <;> omega
    · have hkn : k = n := by omega
      have HO2 : Hid (Ow wr lo hi 3 1 A n c (cI (iota K n))) := Lib.hid (by
        have := HO.out; rw [hkn, List.drop_of_length_le (by have := hlen.out; omega), List.append_nil] at this; exact this)
      have HR : Hid (K + (k : Int) = K + (n : Int)) := Lib.hid (by rw [hkn])
      clear HO hkn
      go_wp2
      go_ret
      exact ⟨ret_int HR.out, HO2.out, HB.out, HZ.out⟩

end Go.Proofs.Ytdhakbpimbadgaa
