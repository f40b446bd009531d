/- What chapter 12's plain laws draw from bytes. Made by tools/gen12/draws.py. -/
import Derived.Test.YtlajhgnlllelfaaDraw2b
import Derived.Test.YtlajhgnlllelfaaFaceB
import Derived.Test.YtlajhgnlllelfaaAppend
import Derived.Test.YtlajhgnlllelfaaFaceI
import Derived.Test.YtlajhgnlllelfaaWalk3b
import Derived.Test.YtlajhgnlllelfaaWalk2a
namespace Go.Proofs.Ytlajhgnlllelfaa
open Go.RowKit
set_option maxRecDepth 100000

theorem own_keptH {w' wr : World} {B e s n g : Nat} {v : Value} {xs : List Value} (h : wr.ownsRow B e s v n xs) (hk : Kept g (g + 1) wr w') (hg : g < B) : w'.ownsRow B e s v n xs := by
  refine ⟨h.1, ?_⟩
  rcases h.2 with h0 | ⟨g', cap, cur, rfl, hb, hh, r⟩
  · exact .inl h0
  · exact .inr ⟨g', cap, cur, rfl, hb, by rw [hk.block g' (Array.getElem?_eq_some_iff.1 hh).1 (by omega)]; exact hh, r⟩
theorem grow_any {w wr w6 : World} {g hi q k co e s : Nat} {Ao : Option Addr} {zs : List Value} {A : Option Addr} {n c : Nat} {bs : List Int} {o : Obj}
    (HO : wr.ownsRow w.heap.size e s (.slice Ao k co) k zs) (HR : Rdr wr g hi q A n c bs) (HK : Kept g (g + 1) w wr) (hg : g < w.heap.size) (hgr : (wr.alloc o).grownBy w6 (Value.ownBlock (.slice Ao k co))) :
    Rdr w6 g hi q A n c bs ∧ Kept g (g + 1) w w6 := by
  have hz := HK.size
  have hlow := HR.low
  have hown := own_block HO
  constructor
  · refine HR.move ?_ ?_
    · rw [hgr.block g (by simp; have := HR.lt; omega) (fun e => by have := hown g e.symm; omega)]
      exact Below.heap_alloc wr o g HR.lt
    · exact below_grown ((Below.refl hi wr).alloc (by have := HR.lt; omega) o) hgr (fun k e => by have := hown k e; omega) (by simp; have := HR.lt; omega)
  · refine ⟨hgr.os.trans HK.os, hgr.tape.trans HK.tape, hgr.output.trans HK.output, Nat.le_trans hz (Nat.le_trans (by simp) hgr.size), fun k hk hn => ?_⟩
    rw [hgr.block k (by simp; omega) (fun e => by have := hown k e.symm; omega), Below.heap_alloc wr o k (by omega)]
    exact HK.block k hk hn
theorem done_i {w1 : World} {B n c : Nat} {A : Option Addr} {ys : List Int} (h : w1.ownsRow B 3 1 (.slice A n c) n (cI ys)) (hs : n ≤ 1048576) : OwIntS w1 B w1.heap.size (.slice A n c) ys ∧ ys.length = n := by
  obtain ⟨A', c', he, ho⟩ := Ow.of_own h
  injection he with h1 h2 h3
  subst h1 h3
  exact ⟨⟨by have := ho.len; omega, A, n, c, rfl, ho⟩, ho.len⟩
theorem done_b {w1 : World} {B n c : Nat} {A : Option Addr} {ys : List Bool} (h : w1.ownsRow B 4 1 (.slice A n c) n (cB ys)) (hs : n ≤ 1048576) : OwBoolS w1 B w1.heap.size (.slice A n c) ys ∧ ys.length = n := by
  obtain ⟨A', c', he, ho⟩ := Ow.of_own h
  injection he with h1 h2 h3
  subst h1 h3
  exact ⟨⟨by have := ho.blen; omega, A, n, c, rfl, ho⟩, ho.blen⟩
theorem results_four {fn : Func} {t u v x : Tmp} (h : fn.results = #[.tmp t, .tmp u, .tmp v, .tmp x]) (tmps : Array Value) (P : Program) (w : World) :
    (results fn tmps).run P w = .ok (.tuple #[tmps.getD t undef, tmps.getD u undef, tmps.getD v undef, tmps.getD x undef]) w := by
  simp [results, h]
theorem nums_app {zs : List Int} {y : Int} (h : numsB zs = true) (y0 : 0 ≤ y) (y1 : y ≤ 112) : numsB (zs ++ [y]) = true := by
  unfold numsB at h ⊢
  rw [List.all_append, h, Bool.true_and]
  simp [(numB_iff y).2 ⟨y0, y1⟩]
theorem cI_app (xs ys : List Int) : cI (xs ++ ys) = cI xs ++ cI ys := by simp [cI]
theorem cB_app (xs ys : List Bool) : cB (xs ++ ys) = cB xs ++ cB ys := by simp [cB]

theorem keepI {w w' : World} {g lo hi : Nat} {v : Value} {d : List Int} (h : OwIntS w lo hi v d) (hk : Kept g (g + 1) w w') (hg : g < lo) (hz : hi ≤ w.heap.size) : OwIntS w' lo hi v d := h.kept hk hz (.inl hg)
theorem keepB {w w' : World} {g lo hi : Nat} {v : Value} {d : List Bool} (h : OwBoolS w lo hi v d) (hk : Kept g (g + 1) w w') (hg : g < lo) (hz : hi ≤ w.heap.size) : OwBoolS w' lo hi v d := h.kept hk hz (.inl hg)
end Go.Proofs.Ytlajhgnlllelfaa
