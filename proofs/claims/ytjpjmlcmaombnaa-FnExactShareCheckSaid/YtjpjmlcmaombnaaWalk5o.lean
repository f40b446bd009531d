/- Chapter 4: SharesOf, in the model and in the program. -/
import Derived.Test.YtjpjmlcmaombnaaWalk5n
import Derived.Test.YtjpjmlcmaombnaaWalk5k
namespace Go.Proofs.Ytjpjmlcmaombnaa
open Go.RowKit Go.Shelf
set_option maxRecDepth 100000

theorem append_types {P : Program} {t t2 ty e e2 : TypeId} (ht : P.underlying t = some (.slice e)) (ht2 : P.underlying t2 = some (.slice e2)) (args : Array Value) (w : World) :
    (Builtin.append_ #[t, t2] ty args).run P w = (Builtin.append_ #[t, t] ty args).run P w := by
  unfold Builtin.append_
  cases args[0]? <;> cases args[1]? <;> simp [run_underlying ht]
  split <;> simp [run_underlying ht, run_underlying ht2]
theorem wpList_append_rd2 {P : Program} {w : World} {ops : Array Oper} {rest : List Oper} {o : Oper} {a : Act} {Q : Exit → Act → World → Prop} (hgd : o.guard = none) (s x : Operand) (t t2 e2 : TypeId)
    (ho : o.op = .call { callee := .builtin .append, args := #[s, x], argTypes := #[t, t2] })
    (base : Nat) (e : TypeId) (z : Value) (size bytes : Nat) (ht : P.underlying t = some (.slice e)) (ht2 : P.underlying t2 = some (.slice e2)) (hi : (P.info? e).map (fun i => (i.zero, i.size, i.bytes)) = some (some z, size, bytes))
    (hzs : z.cells.size = size) (hsz : 0 < size) (v : Value) (n : Nat) (xs : List Value) (hs : a.eval s = v) (hown : w.ownsRow base e size v n xs)
    (hb : Nat) (A : Option Addr) (m c : Nat) (news : List Value) (hx : a.eval x = .slice A m c) (hr : Rd w hb size A m news) (h1 : ∀ u ∈ news, u.oneCell' = true)
    (h63 : n + m ≤ maxLen) (hbytes : (n + m) * bytes ≤ 140737488355328) (hbase : base ≤ w.heap.size)
    (h : ∀ v' w', w'.ownsRow base e size v' (n + m) (xs ++ news) → w.grownBy w' v.ownBlock → (v'.ownBlock = v.ownBlock ∨ v'.ownBlock = some w.heap.size) → wpList P ops Q rest (a.put o.dst v') w') :
    wpList P ops Q (o :: rest) a w := by
  refine wpList_plain hgd fun K hK => ?_
  obtain ⟨v', w', hrun, h2, h3, h4⟩ := run_append_rd (P := P) (w := w) base t o.type e z size bytes ht hi hzs hsz v n xs hown hb A m c news hr h1 h63 hbytes hbase
  rw [← append_types ht ht2] at hrun
  unfold Oper.wp execOp
  simp only [ho, resolve, invoke, builtin, Sem.run_bind, Sem.run_pure, Result.andThen_ok, List.map_toArray, List.map_cons, List.map_nil, hs, hx, hrun]
  exact hK _ _ (h v' w' h2 h3 h4)

set_option maxHeartbeats 1000000 in
theorem i_secretWith (s : Int) (A : Option Addr) (m c : Nat) (zs : List Int) (w : World) (h : Rd w w.heap.size 1 A m (cI zs)) (hm : m ≤ 1000) :
    Calls Try.prog 89 #[.int .i64 s, .slice A m c] w fun e w' => ∃ A' c', e = .returned (.slice A' (1 + m) c') ∧ Ow w' w.heap.size w'.heap.size 3 1 A' (1 + m) c' (cI (s :: zs)) ∧ Below w.heap.size w w' := by
  have HLIT := Lib.hid (lit_int w s)
  have HRD : Hid (Rd (w.alloc (.cells #[.int .i64 s] 3)) w.heap.size 1 A m (cI zs)) := Lib.hid (h.below ((Below.refl _ _).alloc (Nat.le_refl _) _))
  clear h
  go_enter Try.func89, Try.ntmps89
  go_wp2_with (at_builtin
               refine wpList_append_rd2 rfl (.tmp 6) (.tmp 7) 95 26 3 rfl w.heap.size 3 _ 1 8 Try.underlying95 Try.underlying26 info_int rfl (by decide) (.slice (some ⟨w.heap.size, 0, none⟩) 1 1) 1 [.int .i64 s] rfl HLIT.out _ A m c (cI zs) rfl HRD.out (cI_one _) (by unfold maxLen; omega) (by omega) (by simp) ?_
               intro v5 w5 hown hgr hat
               obtain ⟨A5, c5, hv5, ho5⟩ := Ow.of_own hown
               subst hv5
               have HO5 : Hid (Ow w5 w.heap.size w5.heap.size 3 1 A5 (1 + m) c5 (cI (s :: zs))) := Lib.hid ho5
               have HB5 : Hid (Below w.heap.size w w5) := Lib.hid (below_grown ((Below.refl _ _).alloc (Nat.le_refl _) _) hgr (fun g e => by simp [Value.ownBlock] at e; omega) (by simp))
               clear hown hgr hat ho5)
  go_ret
  exact ⟨_, _, rfl, HO5.out, HB5.out⟩

set_option maxHeartbeats 1000000 in
theorem i_given1 (b1 : Nat) (A : Option Addr) (n c k : Nat) (cs : List Int) (w : World) (hb1 : w.cell? ⟨b1, 0, none⟩ = some (.slice A n c)) (hl1 : b1 < w.heap.size) (H : Rd w w.heap.size 1 A n (cI cs)) (hn : n ≤ 1048576) (hz : Nums cs) (hk : k < 7) :
    Calls Try.prog 118 #[.int .i64 k, .pointer (some ⟨b1, 0, none⟩)] w fun e w' => e = .returned (.agg #[.int .i64 (shF cs k).1, .int .i64 (shF cs k).2]) ∧ Below w.heap.size w w' := by
  have HB := (Below.refl w.heap.size w).alloc (Nat.le_refl _) (.cells #[.int .i64 0, .int .i64 0] 53)
  have hc1 := (HB.cell (p := ⟨b1, 0, none⟩) hl1).trans hb1
  have HRD := Lib.hid ((H.below HB).more (show w.heap.size ≤ (w.alloc (.cells #[.int .i64 0, .int .i64 0] 53)).heap.size by simp))
  have HBB := Lib.hid HB
  have hn0 : (w.alloc (.cells #[.int .i64 0, .int .i64 0] 53)).cell? ⟨w.heap.size, 0, none⟩ = some (.int .i64 0) := World.cell?_alloc_new w _ _ 0
  have hn1 : (w.alloc (.cells #[.int .i64 0, .int .i64 0] 53)).cell? ⟨w.heap.size, 1, none⟩ = some (.int .i64 0) := World.cell?_alloc_new w _ _ 1
  have hf := fun j => (Ow.new w #[.int .i64 0, .int .i64 0] 53 2 1 rfl).free (by omega) j
  have HNU := Lib.hid hz
  clear H HB hz
  have i0 : (0 : Int) ≤ (k : Int) := by omega
  have i1 : (k : Int) < 7 := by omega
  have hf0 := hf 0
  have hf1 := hf 1
  clear hf
  obtain ⟨W1, HW1⟩ : ∃ W1, Hid (w.alloc (.cells #[.int .i64 0, .int .i64 0] 53) = W1) := ⟨_, Lib.hid rfl⟩
  have HC1 := Lib.hid hc1
  have HN0 := Lib.hid (And.intro hn0 (And.intro hn1 (And.intro hf0 hf1)))
  clear hc1 hn0 hn1 hf0 hf1
  rw [HW1.out] at HC1 HN0 HBB HRD
  go_enter Try.func118, Try.ntmps118
  go_wp2_with fail
  rw [HW1.out]
  clear hb1
  refine (i_polynomial_at _ _ _ _ _ _ HRD.out HNU.out hn (by omega) (by omega)).mono ?_
  rintro e w2 ⟨rfl, q, rfl⟩
  obtain ⟨hn0, hn1, hf0, hf1⟩ := HN0.out
  go_wp2
  refine bodyPost_ret (v := .agg #[.int .i64 ((k : Int) + 1), .int .i64 (atI cs ((k : Int) + 1))]) (by simp [results, Try.results118, go_sem, hn0, hn1]) rfl ⟨rfl, ?_⟩
  exact ((below_drewN HBB.out q).setCell (p := ⟨w.heap.size, 0, none⟩) (Nat.le_refl _) _).setCell (p := ⟨w.heap.size, 1, none⟩) (Nat.le_refl _) _

set_option maxHeartbeats 1000000 in
theorem i_given (A : Option Addr) (n c N : Nat) (cs : List Int) (w : World) (H : Rd w w.heap.size 1 A n (cI cs)) (hn : n ≤ 1048576) (hz : Nums cs) (hN : N ≤ 7) :
    Calls Try.prog 96 #[.slice A n c, .int .i64 N] w fun e w' => ∃ g, e = .returned g ∧ OwPointS w' w.heap.size w'.heap.size g (uptoF (shF cs) N) ∧ Below w.heap.size w w' := by
  obtain ⟨w0, HW0⟩ : ∃ w0, Hid (w.alloc (.cells #[.slice A n c] 95) = w0) := ⟨_, Lib.hid rfl⟩
  have HB0 : Hid (Below w.heap.size w w0) := Lib.hid (HW0.out ▸ (Below.refl _ _).alloc (Nat.le_refl _) _)
  have HZ0 : Hid (w0.heap.size = w.heap.size + 1) := Lib.hid (by rw [← HW0.out]; simp)
  have HRD : Hid (Rd w0 w0.heap.size 1 A n (cI cs)) := Lib.hid ((H.below HB0.out).more (by have := HZ0.out; omega))
  have HC1 : Hid (w0.cell? ⟨w.heap.size, 0, none⟩ = some (.slice A n c)) := Lib.hid (by rw [← HW0.out]; exact (Boxed.new w _ _).cell)
  clear H
  go_enter Try.func96, Try.ntmps96
  go_wp2_with fail
  rw [HW0.out]
  refine (i_listed_given w.heap.size N (by omega) (shF cs) _ (fun W k hW hk => ?_)).mono ?_
  · exact i_given1 w.heap.size A n c k cs W ((hW.cell (p := ⟨w.heap.size, 0, none⟩) (by have := HZ0.out; simp; omega)).trans HC1.out) (by have := HZ0.out; have := hW.size; omega) ((HRD.out.below hW).more hW.size) hn hz (by omega)
  · rintro e w3 ⟨g, rfl, ho, hb3⟩
    have HO := Lib.hid (ho.widen (show w.heap.size ≤ _ by have := HZ0.out; omega) (Nat.le_refl _))
    have HB3 := Lib.hid (HB0.out.trans (hb3.mono (by have := HZ0.out; omega)))
    clear ho hb3
    go_wp2
    go_ret
    exact ⟨_, rfl, HO.out, HB3.out⟩
end Go.Proofs.Ytjpjmlcmaombnaa
