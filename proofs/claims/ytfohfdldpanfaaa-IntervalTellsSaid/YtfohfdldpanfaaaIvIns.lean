/- slices.insertionSortCmpFunc at intervals: the shelf's contract laid here. -/
import Derived.Test.YtfohfdldpanfaaaIvRow
import Derived.Shelf.Lay
import Derived.Ground.SlsfProg
import Derived.Ground.NamesProg
namespace Go.Proofs.Ytfohfdldpanfaaa
open Go.Shelf Go.RowKit Go.Lib Go.Sort
shelf_lay_g SlLaysF0.n20 Slsf 20 at Try 26 as Try.insIv

theorem ins_any (g : Nat) (cb : Array Value) (cf : Int × Int → Int × Int → Int) (blk off cap : Nat) (d0 : Array (Int × Int)) (w0 : World)
    (eg : ∀ args w, (callFunc g args).run Try.prog w = .ok (.enter g args) w) (hcmp : CmpLays Try.prog g cb encI 2 cf blk off d0.size w0) (R : RowK encI 2 w0 blk off d0) (hO : SWO (ltOf cf))
    (a b : Nat) (d : Array (Int × Int)) (w : World) (hs : d0.size = d.size) (S : SWK encI 2 w0 blk off d w) (hab : a ≤ b) (hb : b ≤ d.size) (hsz : d.size < 4611686018427387904) :
    Calls Try.prog 26 #[.slice (some ⟨blk, off, none⟩) d.size cap, .int .i64 a, .int .i64 b, .func (.func g) #[] cb] w fun e w' => e = .returned (.tuple #[]) ∧ ∃ d', PermIn a b d d' ∧ SortedIn (ltOf cf) a b d' ∧ SWK encI 2 w0 blk off d' w' := by
  have hc : CmpLays Try.prog g cb encI 2 cf blk off d.size w := fun m os dk hk x y => by
    obtain ⟨n, os0, rfl⟩ := S
    rw [sortWorldK_on encI 2 w0 blk off n m d dk os0 os R.hblk hk]
    exact hcmp _ _ dk (hk.trans hs.symm) x y
  have hcon := AnyQ.insertionSortCmpFunc Try.insIv 2 Try.isAgg23 Try.sizeOf23 encI R.hk R.h1 cf g cb blk off cap a b d w eg hc (S.holds R.hblk R.hH hs.symm) (S.lt R.hblk) hab hb hsz
  refine Calls.mono hcon ?_
  rintro e w' ⟨rfl, n, os, rfl⟩
  have hh := insertionSort_holds (lt := ltOf cf) hO d a b hab hb
  exact ⟨rfl, _, hh.1, hh.2, S.on R.hblk n _ os hh.1.1⟩
end Go.Proofs.Ytfohfdldpanfaaa
