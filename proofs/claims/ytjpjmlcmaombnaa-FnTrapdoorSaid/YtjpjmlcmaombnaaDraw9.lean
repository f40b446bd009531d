/- What the plain laws of chapters 5 and 7 draw from bytes. -/
import Derived.Test.YtjpjmlcmaombnaaDraw2b
import Derived.Test.YtjpjmlcmaombnaaWalk7c
namespace Go.Proofs.Ytjpjmlcmaombnaa
open Go.RowKit
set_option maxRecDepth 100000

theorem Kept.to_below2 {lo hi l : Nat} {w w' : World} (h : Kept lo hi w w') (hl : l ≤ lo) (hw : l ≤ w.heap.size) : Below l w w' := ⟨h.os, h.tape, h.output, h.size, fun k hk => h.block k (by omega) (by omega)⟩

set_option maxHeartbeats 1000000 in
theorem d_DrawMendMost (A : Option Addr) (n c : Nat) (bs : List Int) (w : World) (h : Rd w w.heap.size 1 A n (cU bs)) (hb : Byt bs) (hn : n ≤ 1048576) (hc : n ≤ c) :
    Calls Try.prog 56 #[.slice A n c] w fun e w' => ∃ s t, e = .returned (.tuple #[.int .i64 s, .int .i64 t]) ∧ ((0 ≤ s ∧ s ≤ 8) ∧ (-1 ≤ t ∧ t ≤ 7)) ∧ Below w.heap.size w w' := by
  have H := Lib.hid h
  clear h
  go_enter Try.func56, Try.ntmps56
  go_wp2_with fail
  refine (d_l6Open _ _ _ _ _ H.out hb hn hc).mono ?_
  rintro e w1 ⟨rfl, ⟨A', n', c', bs', h1⟩, hb1⟩
  have H1 := Lib.hid h1
  have B1 := Lib.hid hb1
  clear h1 hb1
  go_wp2_with fail
  refine (d_pick _ _ _ _ _ _ _ 9 _ H1.out (by omega) (by omega) (by omega)).mono ?_
  rintro e w2 ⟨z, rfl, z0, z1, h2, k2⟩
  have H2 := Lib.hid h2
  have B2 : Hid (Below w.heap.size w w2) := Lib.hid (B1.out.trans (k2.to_below B1.out.size))
  clear h2 k2
  go_wp2_with fail
  refine (d_pick _ _ _ _ _ _ _ 9 _ H2.out (by omega) (by omega) (by omega)).mono ?_
  rintro e w3 ⟨y, rfl, y0, y1, h3, k3⟩
  have B3 : Hid (Below w.heap.size w w3) := Lib.hid (B2.out.trans (k3.to_below B2.out.size))
  clear h3 k3
  go_wp2
  go_ret2
  exact ⟨_, _, rfl, ⟨⟨by omega, by omega⟩, by omega, by omega⟩, B3.out⟩
set_option maxHeartbeats 1000000 in
theorem d_DrawCommit (A : Option Addr) (n c : Nat) (bs : List Int) (w : World) (h : Rd w w.heap.size 1 A n (cU bs)) (hb : Byt bs) (hn : n ≤ 1048576) (hc : n ≤ c) :
    Calls Try.prog 57 #[.slice A n c] w fun e w' => ∃ s t, e = .returned (.tuple #[.int .i64 s, .int .i64 t]) ∧ Below w.heap.size w w' := by
  have H := Lib.hid h
  clear h
  go_enter Try.func57, Try.ntmps57
  go_wp2_with fail
  refine (d_l6Open _ _ _ _ _ H.out hb hn hc).mono ?_
  rintro e w1 ⟨rfl, ⟨A', n', c', bs', h1⟩, hb1⟩
  have H1 := Lib.hid h1
  have B1 := Lib.hid hb1
  clear h1 hb1
  go_wp2_with fail
  refine (d_l91Num _ _ _ _ _ _ _ _ H1.out (by omega)).mono ?_
  rintro e w2 ⟨z, q, rfl, hz, hq, h2, k2⟩
  have H2 := Lib.hid h2
  have B2 : Hid (Below w.heap.size w w2) := Lib.hid (B1.out.trans (k2.to_below B1.out.size))
  clear h2 k2
  go_wp2_with fail
  refine (d_l91Num _ _ _ _ _ _ _ _ H2.out (by omega)).mono ?_
  rintro e w3 ⟨y, r, rfl, hy, hr, h3, k3⟩
  have B3 : Hid (Below w.heap.size w w3) := Lib.hid (B2.out.trans (k3.to_below B2.out.size))
  clear h3 k3
  go_wp2
  go_ret2
  exact ⟨_, _, rfl, B3.out⟩
set_option maxHeartbeats 1000000 in
theorem d_DrawCommitTurn (A : Option Addr) (n c : Nat) (bs : List Int) (w : World) (h : Rd w w.heap.size 1 A n (cU bs)) (hb : Byt bs) (hn : n ≤ 1048576) (hc : n ≤ c) :
    Calls Try.prog 59 #[.slice A n c] w fun e w' => ∃ s t u, e = .returned (.tuple #[.int .i64 s, .int .i64 t, .int .i64 u]) ∧ Below w.heap.size w w' := by
  have H := Lib.hid h
  clear h
  go_enter Try.func59, Try.ntmps59
  go_wp2_with fail
  refine (d_l6Open _ _ _ _ _ H.out hb hn hc).mono ?_
  rintro e w1 ⟨rfl, ⟨A', n', c', bs', h1⟩, hb1⟩
  have H1 := Lib.hid h1
  have B1 := Lib.hid hb1
  clear h1 hb1
  go_wp2_with fail
  refine (d_l91Num _ _ _ _ _ _ _ _ H1.out (by omega)).mono ?_
  rintro e w2 ⟨z, q, rfl, hz, hq, h2, k2⟩
  have H2 := Lib.hid h2
  have B2 : Hid (Below w.heap.size w w2) := Lib.hid (B1.out.trans (k2.to_below B1.out.size))
  clear h2 k2
  go_wp2_with fail
  refine (d_l91Num _ _ _ _ _ _ _ _ H2.out (by omega)).mono ?_
  rintro e w3 ⟨y, r, rfl, hy, hr, h3, k3⟩
  have H3 := Lib.hid h3
  have B3 : Hid (Below w.heap.size w w3) := Lib.hid (B2.out.trans (k3.to_below B2.out.size))
  clear h3 k3
  go_wp2_with fail
  refine (d_l91Num _ _ _ _ _ _ _ _ H3.out (by omega)).mono ?_
  rintro e w4 ⟨x, s, rfl, hx, hs, h4, k4⟩
  have B4 : Hid (Below w.heap.size w w4) := Lib.hid (B3.out.trans (k4.to_below B3.out.size))
  clear h4 k4
  go_wp2
  go_ret3
  exact ⟨_, _, _, rfl, B4.out⟩
theorem results_tmp4 {fn : Func} {t u v x : Tmp} (h : fn.results = #[.tmp t, .tmp u, .tmp v, .tmp x]) (tmps : Array Value) (P : Program) (w : World) :
    (results fn tmps).run P w = .ok (.tuple #[tmps.getD t undef, tmps.getD u undef, tmps.getD v undef, tmps.getD x undef]) w := by
  simp [results, h]
set_option maxHeartbeats 1000000 in
theorem d_l91Break (g hi p : Nat) (A : Option Addr) (n c : Nat) (bs : List Int) (lo : Nat) (w : World) (h : Rdr w g hi p A n c bs) (hp : p < 999900) (hlo : lo ≤ g) (hlw : lo ≤ w.heap.size) :
    Calls Try.prog 104 #[.pointer (some ⟨g, 0, none⟩)] w fun e w' => ∃ s t u v, e = .returned (.tuple #[.int .i64 s, .int .i64 t, .int .i64 u, .int .i64 v]) ∧ Below lo w w' := by
  have H := Lib.hid h
  clear h
  go_enter Try.func104, Try.ntmps104
  go_wp2_with fail
  refine (d_l91Num _ _ _ _ _ _ _ _ H.out (by omega)).mono ?_
  rintro e w2 ⟨z, q, rfl, hz, hq, h2, k2⟩
  have H2 := Lib.hid h2
  have K2 := Lib.hid k2
  clear h2 k2
  go_wp2_with fail
  refine (d_l91Num _ _ _ _ _ _ _ _ H2.out (by omega)).mono ?_
  rintro e w3 ⟨y, r, rfl, hy, hr, h3, k3⟩
  have H3 := Lib.hid h3
  have K3 := Lib.hid (K2.out.trans k3)
  clear h3 k3
  go_wp2_with fail
  refine (d_l91Num _ _ _ _ _ _ _ _ H3.out (by omega)).mono ?_
  rintro e w4 ⟨x, s, rfl, hx, hs, h4, k4⟩
  have H4 := Lib.hid h4
  have K4 := Lib.hid (K3.out.trans k4)
  have L4 := Lib.hid h4.lt
  have T4 := Lib.hid h4.low
  clear h4 k4
  go_wp2_with fail
  refine (X_s_CommitTurn _ _ _ _).mono ?_
  rintro e w5 ⟨rfl, b5⟩
  have hl4 : Hid (lo ≤ w4.heap.size) := Lib.hid (Nat.le_trans hlw K4.out.size)
  have H5 := Lib.hid (H4.out.move (b5.block g L4.out) (b5.mono (by have := L4.out; have := T4.out; omega)))
  have B5 : Hid (Below lo w w5) := Lib.hid ((K4.out.to_below2 hlo hlw).trans (b5.mono hl4.out))
  have hl5 : Hid (lo ≤ w5.heap.size) := Lib.hid (Nat.le_trans hl4.out b5.size)
  clear b5
  go_wp2_with fail
  refine (d_pick _ _ _ _ _ _ _ 8 _ H5.out (by omega) (by omega) (by omega)).mono ?_
  rintro e w6 ⟨t, rfl, t0, t1, h6, k6⟩
  have H6 := Lib.hid h6
  have B6 : Hid (Below lo w w6) := Lib.hid (B5.out.trans (k6.to_below2 hlo hl5.out))
  have hl6 : Hid (lo ≤ w6.heap.size) := Lib.hid (Nat.le_trans hl5.out k6.size)
  clear h6 k6
  by_cases ht : t = 0
  · subst ht
    go_wp2_with fail
    refine (d_l91Num _ _ _ _ _ _ _ _ H6.out (by omega)).mono ?_
    rintro e w7 ⟨u, r7, rfl, hu, hr7, h7, k7⟩
    have B7 : Hid (Below lo w w7) := Lib.hid (B6.out.trans (k7.to_below2 hlo hl6.out))
    clear h7 k7
    go_wp2
    (try simp only [Exit.inBlock, Exit.then]); refine bodyPost_ret (results_tmp4 rfl _ _ _) rfl ?_
    exact ⟨_, _, _, _, rfl, B7.out⟩
  · go_wp2
    (try simp only [Exit.inBlock, Exit.then]); refine bodyPost_ret (results_tmp4 rfl _ _ _) rfl ?_
    exact ⟨_, _, _, _, rfl, B6.out⟩
set_option maxHeartbeats 1000000 in
theorem d_DrawCommitBreak (A : Option Addr) (n c : Nat) (bs : List Int) (w : World) (h : Rd w w.heap.size 1 A n (cU bs)) (hb : Byt bs) (hn : n ≤ 1048576) (hc : n ≤ c) :
    Calls Try.prog 60 #[.slice A n c] w fun e w' => ∃ s t u v, e = .returned (.tuple #[.int .i64 s, .int .i64 t, .int .i64 u, .int .i64 v]) ∧ Below w.heap.size w w' := by
  have H := Lib.hid h
  clear h
  go_enter Try.func60, Try.ntmps60
  go_wp2_with fail
  refine (d_l6Open _ _ _ _ _ H.out hb hn hc).mono ?_
  rintro e w1 ⟨rfl, ⟨A', n', c', bs', h1⟩, hb1⟩
  have H1 := Lib.hid h1
  have B1 := Lib.hid hb1
  clear h1 hb1
  go_wp2_with fail
  refine (d_l91Break _ _ _ _ _ _ _ w.heap.size _ H1.out (by omega) (Nat.le_refl _) B1.out.size).mono ?_
  rintro e w2 ⟨s, t, u, v, rfl, k2⟩
  have B2 : Hid (Below w.heap.size w w2) := Lib.hid (B1.out.trans k2)
  clear k2
  go_wp2
  (try simp only [Exit.inBlock, Exit.then]); refine bodyPost_ret (results_tmp4 rfl _ _ _) rfl ?_
  exact ⟨_, _, _, _, rfl, B2.out⟩
end Go.Proofs.Ytjpjmlcmaombnaa
