/- Chapter 2: points that are good, as the program sees them. -/
import Derived.Test.YtipdflbnnmghdaaWalk2k
namespace Go.Proofs.Ytipdflbnnmghdaa
open Go.RowKit
set_option maxRecDepth 100000

/-- 113 times no -/
def zz : Array Value := Array.replicate 113 (.bool false)
theorem zz_size : zz.size = 113 := by simp [zz]
theorem store_self {P : Program} (w : World) (cs : Array Value) (t : TypeId) (h1 : ∀ v ∈ cs.toList, v.oneCell' = true) :
    (storeCells ⟨w.heap.size, 0, none⟩ cs.toList).run P (w.alloc (.cells cs t)) = .ok () (w.alloc (.cells cs t)) := by
  have h := run_storeCells_at (P := P) w.heap.size 0 t cs.toList 0 cs (w.alloc (.cells cs t)) (heap_alloc_new _ _) (by simp) h1
  rw [h]
  have e : (cs.toList.take (0 + 0) ++ cs.toList ++ cs.toList.drop (0 + 0 + cs.toList.length)).toArray = cs := by rw [List.drop_of_length_le (by simp)]; simp
  rw [e, setRow_self _ _ cs t (0, 0) (heap_alloc_new _ _)]
theorem zz_one : ∀ v ∈ zz.toList, v.oneCell' = true := by
  intro v hv
  simp only [zz, Array.toList_replicate, List.mem_replicate] at hv
  rw [hv.2]; rfl
end Go.Proofs.Ytipdflbnnmghdaa
