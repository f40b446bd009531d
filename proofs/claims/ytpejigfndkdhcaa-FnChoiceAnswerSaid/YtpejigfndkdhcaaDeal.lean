/- The struct Deal: what reads, what is owned; the laws' helpers. Made by tools/gencomp.py. -/
import Derived.Test.YtpejigfndkdhcaaBx
namespace Go.Proofs.Ytpejigfndkdhcaa
open Go.RowKit
set_option maxRecDepth 100000
def RdDeal (w : World) (hi : Nat) (v : Value) (d : List Int × Int) : Prop :=
  ∃ A0 n0 c0, v = .agg #[.slice A0 n0 c0, .int .i64 (d.2)] ∧ RdIntS w hi (.slice A0 n0 c0) (d.1)
def szDeal (d : List Int × Int) : Nat := szIntS (d.1)
def cntDeal (d : List Int × Int) : Nat := szIntS (d.1)
def OwDeal (w : World) (lo hi : Nat) (v : Value) (d : List Int × Int) : Prop :=
  szDeal d ≤ 1048576 ∧ ∃ A0 n0 c0 s0 t0, v = .agg #[.slice A0 n0 c0, .int .i64 (d.2)] ∧ lo ≤ s0 ∧ t0 ≤ hi ∧ OwIntS w s0 t0 (.slice A0 n0 c0) (d.1)
def mkDeal (K : Int) (d : List Int × Int) : List Int × Int := (mkIntS (K) (d.1), d.2)
section
variable {w w' : World} {lo hi lo' hi' B mid : Nat} {v : Value} {d : List Int × Int}
theorem RdDeal.below (h : RdDeal w hi v d) (hb : Below hi w w') : RdDeal w' hi v d := by
  obtain ⟨A0, n0, c0, rfl, h0⟩ := h; exact ⟨A0, n0, c0, rfl, h0.below hb⟩
theorem RdDeal.more (h : RdDeal w hi v d) (hh : hi ≤ hi') : RdDeal w hi' v d := by
  obtain ⟨A0, n0, c0, rfl, h0⟩ := h; exact ⟨A0, n0, c0, rfl, h0.more hh⟩
theorem OwDeal.small (h : OwDeal w lo hi v d) : szDeal d ≤ 1048576 := h.1
theorem OwDeal.rd (h : OwDeal w lo hi v d) : RdDeal w hi v d := by
  obtain ⟨_, A0, n0, c0, s0, t0, rfl, l0, l1, h0⟩ := h; exact ⟨A0, n0, c0, rfl, h0.rd.more (by omega)⟩
theorem OwDeal.below (h : OwDeal w lo hi v d) (hb : Below B w w') (hz : hi ≤ B) : OwDeal w' lo hi v d := by
  obtain ⟨hsz, A0, n0, c0, s0, t0, rfl, l0, l1, h0⟩ := h; exact ⟨hsz, A0, n0, c0, s0, t0, rfl, l0, l1, h0.below hb (by omega)⟩
theorem OwDeal.kept (h : OwDeal w lo hi v d) (hk : Kept lo' mid w w') (hz : hi ≤ w.heap.size) (hd : mid ≤ lo ∨ hi ≤ lo') : OwDeal w' lo hi v d := by
  obtain ⟨hsz, A0, n0, c0, s0, t0, rfl, l0, l1, h0⟩ := h; exact ⟨hsz, A0, n0, c0, s0, t0, rfl, l0, l1, h0.kept hk (by omega) (by omega)⟩
theorem OwDeal.widen (h : OwDeal w lo hi v d) (h1 : lo' ≤ lo) (h2 : hi ≤ hi') : OwDeal w lo' hi' v d := by
  obtain ⟨hsz, A0, n0, c0, s0, t0, rfl, l0, l1, r0⟩ := h; exact ⟨hsz, A0, n0, c0, s0, t0, rfl, by omega, by omega, r0⟩
end

theorem sz_mkDeal (K : Int) (d : List Int × Int) : szDeal (mkDeal K d) = szDeal d := by
  simp only [szDeal, mkDeal, szIntS, mkIntS, iota_length]
end Go.Proofs.Ytpejigfndkdhcaa
