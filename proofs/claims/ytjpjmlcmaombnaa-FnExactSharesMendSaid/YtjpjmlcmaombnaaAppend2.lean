/- append onto a row that is read again later: the way back to the shorter row, whatever is done to the longer one. -/
import Derived.Test.YtjpjmlcmaombnaaAppend
import Derived.Maps.Range
namespace Go.Proofs.Ytjpjmlcmaombnaa
open Go.RowKit

section
variable {P : Program} {w : World}
theorem own_shorter {w4 : World} {base e size n m g cap : Nat} {xs news : List Value} (hl : xs.length = n * size) (h : w4.ownsRow base e size (.slice (some ⟨g, 0, none⟩) (n + m) cap) (n + m) (xs ++ news)) :
    w4.ownsRow base e size (.slice (some ⟨g, 0, none⟩) n cap) n xs := by
  refine ⟨hl, .inr ?_⟩
  rcases h.2 with ⟨hv, _⟩ | ⟨g', cap', cur, hv, hb, hh, hn, hc, hs, ht⟩
  · cases hv
  · injection hv with h1 h2 h3
    injection h1 with h1; injection h1 with h1
    subst h1; subst h3
    refine ⟨g, cap, cur, rfl, hb, hh, by omega, hc, hs, ?_⟩
    have := congrArg (List.take (n * size)) ht
    rw [List.take_take, Nat.min_eq_left (Nat.mul_le_mul_right _ (by omega)), ← hl, List.take_left] at this
    rw [hl] at this; exact this

theorem run_append_back (base : Nat) (t ty e : TypeId) (z : Value) (size bytes : Nat) (ht : P.underlying t = some (.slice e)) (hi : (P.info? e).map (fun i => (i.zero, i.size, i.bytes)) = some (some z, size, bytes))
    (hzs : z.cells.size = size) (hsz : 0 < size) (v : Value) (n : Nat) (xs : List Value) (hown : w.ownsRow base e size v n xs)
    (ad : Addr) (m c : Nat) (news : List Value) (hl : news.length = m * size) (hnews : ∀ j u, news[j]? = some u → w.cell? (ad.add j) = some u) (h1 : ∀ u ∈ news, u.oneCell' = true)
    (h63 : n + m ≤ maxLen) (hbytes : (n + m) * bytes ≤ 140737488355328) (hbase : base ≤ w.heap.size) :
    ∃ A' c' w', (Builtin.append_ #[t, t] ty #[v, .slice (some ad) m c]).run P w = .ok (.slice A' (n + m) c') w' ∧ w'.ownsRow base e size (.slice A' (n + m) c') (n + m) (xs ++ news) ∧ w.grownBy w' v.ownBlock ∧
      ((Value.ownBlock (.slice A' (n + m) c')) = v.ownBlock ∨ (Value.ownBlock (.slice A' (n + m) c')) = some w.heap.size) ∧
      (∀ w4, w'.grownBy w4 (Value.ownBlock (.slice A' (n + m) c')) → w4.ownsRow base e size (.slice A' (n + m) c') (n + m) (xs ++ news) → w.grownBy w4 v.ownBlock ∧ w4.ownsRow base e size v n xs) := by
  obtain ⟨i, hii, hz0, hz1, hz2⟩ := info_parts hi
  clear hi
  obtain ⟨v', w', hr, h2, h3, _, h5⟩ := run_append_own_at (P := P) w base t ty e i z size bytes ht hii hz0 hz1 hz2 hzs hsz v n xs hown ad m c news hl hnews h1 h63 hbytes hbase
  obtain ⟨A', c', rfl, ho⟩ := Ow.of_own h2
  refine ⟨A', c', w', hr, h2, h3, h5, fun w4 hg ho4 => ?_⟩
  have hgr : w.grownBy w4 v.ownBlock := h3.andThen hg (fun j hj => by
    rcases h5 with h5 | h5
    · exact .inr (h5.symm.trans hj)
    · rw [h5] at hj; injection hj with hj; exact .inl (by omega))
  refine ⟨hgr, ?_⟩
  rcases hown.2 with ⟨rfl, rfl⟩ | ⟨g, cap, cur, rfl, hbg, hg0, hnc, hcm, hcs, htake⟩
  · have hx : xs = [] := List.eq_nil_of_length_eq_zero (by simpa using hown.1)
    subst hx; exact World.ownsRow_nil _ _ _ _
  · by_cases hroom : n + m ≤ cap
    · subst hz1
      have hfit : n * i.size + news.length ≤ cur.size := by rw [hl, hcs, ← Nat.add_mul]; exact Nat.mul_le_mul_right _ hroom
      have hr2 := run_append_room (P := P) w t ty e i ht hii g n cap cur hg0 ad m c news hl hnews h1 hroom hfit
      rw [hr] at hr2
      injection hr2 with hr2 _
      injection hr2 with e1 _ e3
      subst e1; subst e3
      exact own_shorter hown.1 ho4
    · subst hz1; subst hz2
      have holds : ∀ j u, xs[j]? = some u → w.cell? ((⟨g, 0, none⟩ : Addr).add j) = some u := hown.cells (g := g) rfl
      have hr3 := run_append_grow (P := P) w t ty e i z ht hii hz0 ⟨g, 0, none⟩ n cap xs hown.1 holds ad m c news hl hnews (by omega) (by simp only [maxLen] at h63; omega) (growslice_fits (by omega) hbytes)
      rw [hr] at hr3
      injection hr3 with hv hw
      injection hv with e1 _ _
      have hlt := (Array.getElem?_eq_some_iff.1 hg0).1
      subst e1
      refine ⟨hown.1, .inr ⟨g, cap, cur, rfl, hbg, ?_, hnc, hcm, hcs, htake⟩⟩
      rw [hg.block g (Nat.lt_of_lt_of_le hlt h3.size) (by simp [Value.ownBlock]; omega), hw]
      exact (Below.heap_alloc w.drew _ g hlt).trans hg0
end
end Go.Proofs.Ytjpjmlcmaombnaa
