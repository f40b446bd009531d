/- The laws' own helpers over lists of ints: a copy, a comparison, a mark, the mark asked for. -/
import Derived.Test.YtpaaimmakkfbkaaBase
import Derived.Test.YtpaaimmakkfbkaaRows
import Derived.BigQuiet
import Derived.Deep.QuietTactic
namespace Go.Proofs.Ytpaaimmakkfbkaa
open Go.RowKit

theorem info_int : (Try.prog.info? 3).map (fun i => (i.zero, i.size, i.bytes)) = some (some (.int .i64 0), 1, 8) := by kernel_rfl
theorem copy_step {zs : List Int} {n k : Nat} (hz : zs.length = n) (hk : k < n) : (zs.take k ++ List.replicate (n - k) 0).set k (zs.getD k 0) = zs.take (k + 1) ++ List.replicate (n - (k + 1)) 0 := by
  have hl : (zs.take k).length = k := by simp; omega
  rw [List.set_append_right _ _ (by omega), hl, Nat.sub_self, show n - k = (n - (k + 1)) + 1 by omega, List.replicate_succ]
  have hk' : k < zs.length := by omega
  rw [List.set_cons_zero, List.take_succ_eq_append_getElem hk', List.append_assoc, List.singleton_append]
  simp [hk']

/-- the marks: K, K + 1, .. -/
def iota (K : Int) (n : Nat) : List Int := (List.range n).map fun i : Nat => K + (i : Int)
theorem iota_length (K : Int) (n : Nat) : (iota K n).length = n := by simp [iota]
theorem iota_get (K : Int) (n j : Nat) (h : j < n) : (iota K n).getD j 0 = K + j := by simp [iota, h]
theorem iota_succ (K : Int) (n : Nat) : iota K (n + 1) = iota K n ++ [K + n] := by simp [iota, List.range_succ]
/-- the first k marked -/
theorem mark_step {zs : List Int} {n k : Nat} (K : Int) (hz : zs.length = n) (hk : k < n) : (iota K k ++ zs.drop k).set k (K + k) = iota K (k + 1) ++ zs.drop (k + 1) := by
  have hl := iota_length K k
  have hk' : k < zs.length := by omega
  rw [List.set_append_right _ _ (by omega), hl, Nat.sub_self, iota_succ, List.append_assoc, List.drop_eq_getElem_cons hk', List.set_cons_zero, List.singleton_append]
theorem ret_int {k : IntKind} {a b : Int} (h : a = b) : Ending.returned (.int k a) = .returned (.int k b) := by rw [h]

end Go.Proofs.Ytpaaimmakkfbkaa
