/- Chapter 7: the map of powers: its key's type, what a key reads as, a map that holds powers alone. -/
import Derived.Test.YtjpjmlcmaombnaaWalk2e
import Derived.Test.YtjpjmlcmaombnaaMath1
import Derived.Maps.OwnSet
import Derived.DeepKeys5
namespace Go.Proofs.Ytjpjmlcmaombnaa
open Go.RowKit
set_option maxRecDepth 100000

theorem key_law : Maps.Keyed Try.prog 99 := Maps.Keyed.of_law (deep_law_gate (by kernel_rfl) (by decide +kernel) (by decide +kernel) (by kernel_rfl) (by kernel_rfl))
/-- what a power reads as -/
def kL (g e : Int) : Lit := .string (keyBytes [.int .i64 g, .int .i64 e])
theorem keyOf_two {P : Program} {k t1 t2 : TypeId} {n : Nat} {f1 f2 : Field} (hk : P.underlying k = some (.struct #[f1, f2])) (hkey : P.keyType k = true) (hc : P.cellsOf k = 2) (hn : P.types.size = n + 1)
    (h1 : f1.type = t1 ∧ f1.offset = 0 ∧ (f1.name != "_") = true) (h2 : f2.type = t2 ∧ f2.offset = 1 ∧ (f2.name != "_") = true) (c1 : P.cellsOf t1 = 1) (c2 : P.cellsOf t2 = 1)
    (u1 : P.underlying t1 = some (.int .i64)) (u2 : P.underlying t2 = some (.int .i64)) {a b : Int} (wa : (Lit.int .i64 a).wf = true) (wb : (Lit.int .i64 b).wf = true) :
    keyOf P k (.agg #[.int .i64 a, .int .i64 b]) = some (kL a b) := by
  obtain ⟨rfl, o1, m1⟩ := h1
  obtain ⟨rfl, o2, m2⟩ := h2
  unfold keyOf
  rw [hk]
  simp only [hkey, Value.formed, hk, hc, hn, Value.cells, Bool.true_and]
  simp [Program.keyLits, hk, hc, o1, o2, m1, m2, c1, c2, u1, u2, wa, wb, kL]
theorem key_pow (g e : Int) (hg : 0 ≤ g ∧ g ≤ 226) (he : 0 ≤ e ∧ e ≤ 112) : keyOf Try.prog 99 (.agg #[.int .i64 g, .int .i64 e]) = some (kL g e) :=
  keyOf_two Try.underlying99 (by kernel_rfl) (by kernel_rfl) (n := Try.prog.types.size - 1) (by kernel_rfl) ⟨rfl, rfl, by decide⟩ ⟨rfl, rfl, by decide⟩ (by kernel_rfl) (by kernel_rfl)
    Try.underlying85 Try.underlying89 (WalkArith.wf_i64 (by omega)) (WalkArith.wf_i64 (by omega))
theorem kL_inj {g e g' e' : Int} (hg : 0 ≤ g ∧ g ≤ 226) (he : 0 ≤ e ∧ e ≤ 112) (hg' : 0 ≤ g' ∧ g' ≤ 226) (he' : 0 ≤ e' ∧ e' ≤ 112) (h : kL g e = kL g' e') : g = g' ∧ e = e' := by
  have := key_law.inj (key_pow g e hg he) (h ▸ key_pow g' e' hg' he')
  simpa using this
/-- the map holds nothing but powers -/
def Pows (D : DataW Unit) : Prop := ∃ es, D = .map es ∧ ∀ p ∈ es, ∃ g e : Int, (0 ≤ g ∧ g ≤ 226) ∧ (0 ≤ e ∧ e ≤ 112) ∧ p = (kL g e, .lit (.int .i64 (powI g e 227)))
theorem pows_nil : Pows (.map []) := ⟨[], rfl, by simp⟩
theorem mem_ins {x p : Lit × DataW Unit} (l : List (Lit × DataW Unit)) (h : p ∈ DataW.insert x l) : p = x ∨ p ∈ l := by
  induction l with
  | nil => simp [DataW.insert] at h; exact .inl h
  | cons y r ih =>
    unfold DataW.insert at h
    split at h
    · simpa using h
    · rcases List.mem_cons.1 h with h | h
      · exact .inr (by simp [h])
      · rcases ih h with h | h
        · exact .inl h
        · exact .inr (by simp [h])
theorem Pows.put {D : DataW Unit} (h : Pows D) {g e : Int} (hg : 0 ≤ g ∧ g ≤ 226) (he : 0 ≤ e ∧ e ≤ 112) : Pows (D.put (kL g e) (.lit (.int .i64 (powI g e 227)))) := by
  obtain ⟨es, rfl, hes⟩ := h
  refine ⟨_, rfl, fun p hp => ?_⟩
  rcases mem_ins _ hp with rfl | hp
  · exact ⟨g, e, hg, he, rfl⟩
  · exact hes p (List.mem_filter.1 hp).1
theorem same_kL {g e g' e' : Int} (h : (kL g e).sameKey (kL g' e') = true) : kL g e = kL g' e' := by
  simp only [kL, Lit.sameKey, beq_iff_eq] at h
  unfold kL; rw [h]
theorem Pows.at {D : DataW Unit} (h : Pows D) {g e : Int} (hg : 0 ≤ g ∧ g ≤ 226) (he : 0 ≤ e ∧ e ≤ 112) (hh : Maps.has D (kL g e) = true) (z : DataW Unit) : D.atKey (kL g e) z = .lit (.int .i64 (powI g e 227)) := by
  obtain ⟨es, rfl, hes⟩ := h
  rw [Maps.has_eq, List.any_eq_true] at hh
  simp only [DataW.atKey]
  cases hf : es.find? (fun p => p.1.sameKey (kL g e)) with
  | none =>
    obtain ⟨p, hp, hs⟩ := hh
    have := List.find?_eq_none.1 hf p hp
    rw [hs] at this; exact absurd rfl this
  | some p =>
    have h1 := List.mem_of_find?_eq_some hf
    have h2 := List.find?_some hf
    obtain ⟨g', e', hg', he', rfl⟩ := hes p h1
    obtain ⟨rfl, rfl⟩ := kL_inj hg' he' hg he (same_kL h2)
    rfl
/-- no list of different things is longer than one that has them all -/
theorem len_le {α : Type} : ∀ (l U : List α), l.Pairwise (fun a b => a ≠ b) → (∀ x ∈ l, x ∈ U) → l.length ≤ U.length := by
  classical
  intro l
  induction l with
  | nil => intro U _ _; simp
  | cons a t ih =>
    intro U hp hU
    have ha := hU a (by simp)
    rw [List.pairwise_cons] at hp
    have := ih (U.erase a) hp.2 (fun x hx => (List.mem_erase_of_ne (fun e => hp.1 x hx e.symm)).2 (hU x (by simp [hx])))
    rw [List.length_erase_of_mem ha] at this
    have : 0 < U.length := List.length_pos_of_mem ha
    simp; omega
def allK : List Lit := (List.range 227).flatMap fun (g : Nat) => (List.range 113).map fun (e : Nat) => kL (g : Int) (e : Int)
theorem allK_len : allK.length = 25651 := by simp [allK, List.length_flatMap]; decide +kernel
theorem Pows.few {D : DataW Unit} (h : Pows D) (ht : Maps.Tidy D) : Maps.size D ≤ 25651 := by
  obtain ⟨es, rfl, hes⟩ := h
  obtain ⟨es', e1, hp⟩ := ht
  injection e1 with e1; subst e1
  rw [Maps.size_eq, ← allK_len]
  have := len_le (es.map (·.1)) allK (List.pairwise_map.2 hp) (fun x hx => by
    obtain ⟨p, hp, rfl⟩ := List.mem_map.1 hx
    obtain ⟨g, e, hg, he, rfl⟩ := hes p hp
    obtain ⟨G, rfl⟩ := Int.eq_ofNat_of_zero_le hg.1
    obtain ⟨E, rfl⟩ := Int.eq_ofNat_of_zero_le he.1
    exact List.mem_flatMap.2 ⟨G, List.mem_range.2 (by omega), List.mem_map.2 ⟨E, List.mem_range.2 (by omega), rfl⟩⟩)
  simpa using this
/-- block b is a map of powers -/
def PM (w : World) (b : Nat) : Prop := ∃ D : DataW Unit, w.ownsMap Try.prog 99 (plainElem Try.prog 85) b 25651 D ∧ Pows D
theorem PM.of {w : World} {b n : Nat} {D : DataW Unit} (h : w.ownsMap Try.prog 99 (plainElem Try.prog 85) b n D) (hp : Pows D) : PM w b := by
  have ht := h.tidy key_law
  obtain ⟨es, clock, hb, F, _, hD⟩ := h
  refine ⟨D, ⟨es, clock, hb, F, ?_, hD⟩, hp⟩
  have := hp.few ht
  rw [hD, Maps.size_eq, length_sorted, List.length_map] at this
  simpa using this
theorem PM.lt {w : World} {b : Nat} (h : PM w b) : b < w.heap.size := by obtain ⟨D, h, _⟩ := h; exact h.lt
theorem PM.made (w : World) : PM (w.alloc (.map #[] 0)) w.heap.size := .of (World.ownsMap_made w _ _ _) pows_nil
theorem PM.keep {w w' : World} {b : Nat} (h : PM w b) (hb : w'.heap[b]? = w.heap[b]?) : PM w' b := by
  obtain ⟨D, ⟨es, clock, h1, h2⟩, hp⟩ := h
  exact ⟨D, ⟨es, clock, hb.trans h1, h2⟩, hp⟩
theorem PM.alloc {w : World} {b : Nat} (h : PM w b) (o : Obj) : PM (w.alloc o) b := h.keep (Below.heap_alloc w o b h.lt)
theorem PM.drewN {w : World} {b : Nat} (h : PM w b) (m : Nat) : PM (w.drewN m) b := h.keep rfl
theorem PM.drew {w : World} {b : Nat} (h : PM w b) : PM w.drew b := h.keep rfl
end Go.Proofs.Ytjpjmlcmaombnaa
