/- Intervals in rows; slices.SortStableFunc's exchanges: swapRange, rotate. -/
import Derived.Test.YtfohfdldpanfaaaIvSortM
import Derived.Test.YtfohfdldpanfaaaTurns
import Derived.Shelf.SlSortCmp.KitK
import Derived.Sort.WalkB2
import Derived.Sort.WalkB12
import Derived.Deep.LoopGhost
import Derived.BigRegion
namespace Go.Proofs.Ytfohfdldpanfaaa
open Go.Shelf Go.RowKit Go.Lib Go.Sort
set_option linter.unusedSimpArgs false
set_option linter.unusedVariables false

/-- An interval's two cells. -/
def encI (x : Int × Int) : List Value := [.int .i64 x.1, .int .i64 x.2]
section
variable {w0 W : World} {blk off : Nat} {dk d0 : Array (Int × Int)}
theorem sw_c0 (h : SWK encI 2 w0 blk off dk W) (R : RowK encI 2 w0 blk off d0) (hs : dk.size = d0.size) (i : Nat) (hi : i < dk.size) : W.cell? ⟨blk, off + i * 2, none⟩ = some (.int .i64 dk[i]!.1) :=
  (HoldsK.cell (h.holds R.hblk R.hH hs) (c := 0) hi (by decide)).1
theorem sw_c1 (h : SWK encI 2 w0 blk off dk W) (R : RowK encI 2 w0 blk off d0) (hs : dk.size = d0.size) (i : Nat) (hi : i < dk.size) : W.cell? ⟨blk, off + i * 2 + 1, none⟩ = some (.int .i64 dk[i]!.2) :=
  (HoldsK.cell (h.holds R.hblk R.hH hs) (c := 1) hi (by decide)).1
theorem sw_f0 (h : SWK encI 2 w0 blk off dk W) (R : RowK encI 2 w0 blk off d0) (hs : dk.size = d0.size) (i : Nat) (hi : i < dk.size) : W.frozen? ⟨blk, off + i * 2, none⟩ = false :=
  (HoldsK.cell (h.holds R.hblk R.hH hs) (c := 0) hi (by decide)).2
theorem sw_f1 (h : SWK encI 2 w0 blk off dk W) (R : RowK encI 2 w0 blk off d0) (hs : dk.size = d0.size) (i : Nat) (hi : i < dk.size) : W.frozen? ⟨blk, off + i * 2 + 1, none⟩ = false :=
  (HoldsK.cell (h.holds R.hblk R.hH hs) (c := 1) hi (by decide)).2
theorem sw_l0 (h : SWK encI 2 w0 blk off dk W) (R : RowK encI 2 w0 blk off d0) (hs : dk.size = d0.size) (i : Nat) (hi : i < dk.size) (n : Nat) (os : Array Obj) : (grow (W.drewN n) os).cell? ⟨blk, off + i * 2, none⟩ = some (.int .i64 dk[i]!.1) := sw_c0 (h.grown n os) R hs i hi
theorem sw_l1 (h : SWK encI 2 w0 blk off dk W) (R : RowK encI 2 w0 blk off d0) (hs : dk.size = d0.size) (i : Nat) (hi : i < dk.size) (n : Nat) (os : Array Obj) : (grow (W.drewN n) os).cell? ⟨blk, off + i * 2 + 1, none⟩ = some (.int .i64 dk[i]!.2) := sw_c1 (h.grown n os) R hs i hi
theorem other_cell {W : World} {a b : Nat} (v : Value) {u : Value} (h : a ≠ b) (e : W.cell? ⟨blk, b, none⟩ = some u) : (W.setCell ⟨blk, a, none⟩ v).cell? ⟨blk, b, none⟩ = some u :=
  (World.cell?_setCell_other _ _ _ _ (by intro e'; simp only [Addr.mk.injEq] at e'; omega)).trans e
theorem sw_exch (h : SWK encI 2 w0 blk off dk W) (R : RowK encI 2 w0 blk off d0) (i j : Nat) (hi : i < dk.size) (hj : j < dk.size) :
    SWK encI 2 w0 blk off (swp dk i j) ((((W.setCell ⟨blk, off + i * 2, none⟩ (.int .i64 dk[j]!.1)).setCell ⟨blk, off + i * 2 + 1, none⟩ (.int .i64 dk[j]!.2)).setCell ⟨blk, off + j * 2, none⟩ (.int .i64 dk[i]!.1)).setCell ⟨blk, off + j * 2 + 1, none⟩ (.int .i64 dk[i]!.2)).drew :=
  (h.swap R.hk R.hblk i j hi hj).drew
end
set_option maxHeartbeats 4000000 in
set_option maxRecDepth 1000000 in
theorem swapRange_any (g : Nat) (cb : Array Value) (blk off cap a b n : Nat) (d0 d : Array (Int × Int)) (w0 w : World)
    (R : RowK encI 2 w0 blk off d0) (hs : d0.size = d.size) (S : SWK encI 2 w0 blk off d w) (ha : a + n ≤ b) (hb : b + n ≤ d.size) (hsz : d.size < 4611686018427387904) :
    Calls Try.prog 29 #[.slice (some ⟨blk, off, none⟩) d.size cap, .int .i64 a, .int .i64 b, .int .i64 n, .func (.func g) #[] cb] w fun e w' => e = .returned (.tuple #[]) ∧ SWK encI 2 w0 blk off (swr d a b n) w' := by
  have S0 : Aside (SWK encI 2 w0 blk off d w) := S
  clear S
  go_enter Try.func29, Try.ntmps29
  go_wp2
  go_loopg [10] n (fun kx s10 wr => ∃ (i : Nat), s10 = .int .i64 i ∧ i ≤ n ∧ n - i ≤ kx ∧ Aside (SWK encI 2 w0 blk off (swr d a b i) wr))
  case atStart => exact ⟨0, by go_num, Nat.zero_le _, Nat.le_refl _, S0⟩
  case round =>
    clear S0
    obtain ⟨i, rfl, hin, hkx, S1⟩ := hrel
    have hds := size_swr d a b i
    by_cases hlt : i < n
    · have hltz : (i : Int) < (n : Int) := by omega
      go_wp2_with fail
      have ea1 : ((a : Int) + (i : Int)).toNat = a + i := by omega
      have pa1 : (0 : Int) ≤ (a : Int) + (i : Int) := by omega
      have ba1 : (a : Int) + (i : Int) < (d.size : Int) := by omega
      have ra1 : IntKind.i64.wrap ((a : Int) + (i : Int)) = (a : Int) + (i : Int) := by rw [IntKind.wrap_i64]; omega
      have ec1 : ((b : Int) + (i : Int)).toNat = b + i := by omega
      have pc1 : (0 : Int) ≤ (b : Int) + (i : Int) := by omega
      have bc1 : (b : Int) + (i : Int) < (d.size : Int) := by omega
      have rc1 : IntKind.i64.wrap ((b : Int) + (i : Int)) = (b : Int) + (i : Int) := by rw [IntKind.wrap_i64]; omega
      obtain ⟨p, hp⟩ : ∃ p, p = a + i := ⟨_, rfl⟩
      obtain ⟨q, hq⟩ : ∃ q, q = b + i := ⟨_, rfl⟩
      rw [← hp] at ea1
      rw [← hq] at ec1
      obtain ⟨x, hx⟩ : ∃ x, x = (swr d a b i)[p]! := ⟨_, rfl⟩
      obtain ⟨y, hy⟩ : ∃ x, x = (swr d a b i)[q]! := ⟨_, rfl⟩
      have S2 := sw_exch S1.out R p q (by omega) (by omega)
      have hne : p ≠ q := by omega
      have c1 := sw_c0 S1.out R (by omega) p (by omega)
      have c2 := sw_c1 S1.out R (by omega) p (by omega)
      have c3 := sw_c0 S1.out R (by omega) q (by omega)
      have c4 := sw_c1 S1.out R (by omega) q (by omega)
      have f1 := sw_f0 S1.out R (by omega) p (by omega)
      have f2 := sw_f1 S1.out R (by omega) p (by omega)
      have f3 := sw_f0 S1.out R (by omega) q (by omega)
      have f4 := sw_f1 S1.out R (by omega) q (by omega)
      rw [← hx, ← hy] at S2
      rw [← hx] at c1 c2
      rw [← hy] at c3 c4
      have g2 := other_cell (.int .i64 y.1) (show off + p * 2 ≠ off + p * 2 + 1 by omega) c2
      have g3 := other_cell (.int .i64 y.2) (show off + p * 2 + 1 ≠ off + q * 2 by omega) (other_cell (.int .i64 y.1) (show off + p * 2 ≠ off + q * 2 by omega) c3)
      have g4 := other_cell (.int .i64 x.1) (show off + q * 2 ≠ off + q * 2 + 1 by omega) (other_cell (.int .i64 y.2) (show off + p * 2 + 1 ≠ off + q * 2 + 1 by omega) (other_cell (.int .i64 y.1) (show off + p * 2 ≠ off + q * 2 + 1 by omega) c4))
      have HS : Hid (swp (swr d a b i) p q = swr d a b (i + 1)) := by rw [hp, hq]; rfl
      rw [HS.out] at S2
      have S3 : Aside _ := S2
      clear S1 S2 hx hy hp hq hne
      have mixed : Try.prog.follows Departure.mixedOrders = true := by kernel_rfl
      go_wp2_with fail
      go_big_region_o
      clear c1 c2 c3 c4 f1 f2 f3 f4 g2 g3 g4
      generalize ((((wr.setCell ⟨blk, off + p * 2, none⟩ (.int .i64 y.1)).setCell ⟨blk, off + p * 2 + 1, none⟩ (.int .i64 y.2)).setCell ⟨blk, off + q * 2, none⟩ (.int .i64 x.1)).setCell ⟨blk, off + q * 2 + 1, none⟩ (.int .i64 x.2)).drew = w2 at S3 ⊢
      go_wp2
      go_roundg (n - (i + 1))
      case measure => omega
      case rel => exact ⟨i + 1, by go_num, by omega, Nat.le_refl _, S3⟩
    · have hltz : ¬ (i : Int) < (n : Int) := by omega
      obtain rfl : i = n := by omega
      go_wp2
      go_end0
      exact ⟨rfl, S1.out⟩
end Go.Proofs.Ytfohfdldpanfaaa
