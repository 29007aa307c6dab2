/- What the row's list of package variables gives: the table of bounds lies in memory. -/
import Derived.Test.YtafhogfbjklboaaDoorCards
import Derived.Test.YtafhogfbjklboaaDoorTie
import Derived.Test.YtafhogfbjklboaaDoorTxt
import Derived.ProofKit
import Derived.OpenShut
import Derived.Deep.Slices
import Derived.Deep.DeepHandedRow
import Derived.Deep.DeepWitnessRowRef
import Derived.Lib.LaidU8
namespace Go.Proofs.YtafhogfbjklboaaDoor
open Go.ChangeShapes Go.WideShapes Go.ChangeAt Go.RowKit

theorem own : ownKnob Tryd.prog.godebug = none := by kernel_rfl
theorem gTab : Tryd.prog.globalNamed "palinode/utf.table" = some 2 := by kernel_rfl
theorem gTabType : (Tryd.prog.globals[2]?).map (·.type) = some 91 := by kernel_rfl
theorem cellsB : Tryd.prog.cellsOf 93 = 7 := by kernel_rfl
theorem cellsInt : Tryd.prog.cellsOf 3 = 1 := by kernel_rfl
theorem cells32 : Tryd.prog.cellsOf 21 = 1 := by kernel_rfl
theorem cells8 : Tryd.prog.cellsOf 5 = 1 := by kernel_rfl

section
variable {H : Type} {enc : TypeId × Value → H} {P : Program} {w : World} {base : Nat} {sp : Nat → Bool} {held : Bool}
/-- A struct's field that reads as an integer holds it. -/
theorem field_int {fuel : Nat} {t : TypeId} {fs : Array Field} {cs : List Value} {ds : List (DataW H)} {p : List MemPlace} (ht : P.underlying t = some (.struct fs))
    (h : DataW.trod enc P w base sp held fuel t cs = some (.agg ds, p)) (j : Nat) (f : Field) (hf : fs.toList[j]? = some f) {k : IntKind} (hk : P.underlying f.type = some (.int k)) (hc : P.cellsOf f.type = 1) {z : Int}
    (hd : ds[j]? = some (.lit (.int k z))) : cs[f.offset]? = some (.int k z) := by
  cases fuel with
  | zero => simp [DataW.trod] at h
  | succ n =>
    simp only [DataW.trod, ht] at h
    split at h
    · obtain ⟨xs, hm, hx⟩ := Option.map_eq_some_iff.1 h
      obtain ⟨b, hb, hg⟩ := Lib.mapM_at hm j f hf
      rw [hc] at hg
      obtain ⟨m, hcs, hbm, _⟩ := DataW.trod_int hk hg
      have hds : ds = xs.map (·.1) := by
        have := congrArg Prod.fst hx
        simpa using this.symm
      rw [hds, List.getElem?_map, hb] at hd
      simp only [Option.map_some, Option.some.injEq, hbm, DataW.lit.injEq, Lit.int.injEq, true_and] at hd
      subst hd
      have := congrArg (·[0]?) hcs
      simpa [List.getElem?_take, List.getElem?_drop] using this
    · cases h
end

def tabRow (k : Nat) : DataW Unit := .agg [.lit (.int .i32 (tF k)), .lit (.int .i32 (tL k)), .lit (.int .u8 (tLo k)), .lit (.int .u8 (tHi k)), .lit (.int .u8 (tA k)), .lit (.int .u8 (tZ k)), .lit (.int .i64 (tN k))]
theorem tab_data : (Rows.laid_palinode_utf_table : DataW Unit) = .slice ((List.range 9).map tabRow) [] := by rfl

set_option maxRecDepth 100000 in
/-- WHAT THE ROW's LIST GIVES. -/
theorem tab_of_reads {W : World} (h : Lib.VarReads Tryd.prog W "palinode/utf.table" Rows.laid_palinode_utf_table) : ∃ tb, Tab W tb := by
  obtain ⟨g, t, cs, fuel, p, hg, ht, hvar, hd⟩ := h
  obtain rfl := Option.some.inj (gTab.symm.trans hg)
  obtain rfl := Option.some.inj (gTabType.symm.trans ht)
  rcases Go.Deep.open_slice Tryd.underlying91 hd with ⟨_, hx⟩ | ⟨a, len, cap, m, n, D, Pl, hcs, _, hl, _, hm, hx, hcell⟩
  · rw [tab_data] at hx
    cases (congrArg Prod.fst hx)
  · have hx1 := congrArg Prod.fst hx
    simp only at hx1
    rw [tab_data, DataW.slice.injEq] at hx1
    obtain ⟨hx1, hx2⟩ := hx1
    have hlen : len = 9 := by
      have := congrArg List.length hx1
      simp at this
      omega
    subst hlen
    have hm9 : m = 9 := by
      have := congrArg List.length hx2
      simp at this hm
      omega
    simp at hm
    obtain rfl : cap = 9 := by omega
    subst hm9
    have hD : ∀ i, i < 9 → D i = tabRow i := by
      intro i hi
      have := congrArg (·[i]?) hx1
      simp [hi] at this
      exact this.symm
    have hsp : a.spot = none := by
      obtain ⟨cs', h1, _⟩ := hcell 0 (by omega)
      rw [cellsB] at h1
      obtain ⟨_, hl', hc⟩ := World.cells?_some h1
      have := hc 0 (by omega)
      rw [List.getElem?_eq_getElem (by omega)] at this
      simpa [Addr.add] using World.cell?_spot this
    obtain ⟨b, off, spot⟩ := a
    simp only at hsp
    subst hsp
    have hrow : ∀ k, k < 9 → ∀ j, j < 7 → ∃ cs' : List Value, W.cell? ⟨b, off + k * 7 + j, none⟩ = cs'[j]? ∧ ∃ n, DataW.trod (fun _ => ()) Tryd.prog W 0 (fun _ => true) false n 93 cs' = some (tabRow k, Pl k) := by
      intro k hk j hj
      obtain ⟨cs', h1, h2⟩ := hcell k (by omega)
      rw [cellsB] at h1
      obtain ⟨_, hl', hc⟩ := World.cells?_some h1
      refine ⟨cs', ?_, n, by rw [← hD k hk]; exact h2⟩
      rw [← hc j hj, Go.WideShapes.add_plain, Go.WideShapes.add_plain]
    have hhead : W.cell? ⟨2, 0, none⟩ = some (.slice (some ⟨b, off, none⟩) 9 9) := by
      have := World.var?_cell gTab hvar 0
      rw [this, ← Array.getElem?_toList, hcs]
      rfl
    refine ⟨(b, off), hhead, fun k hk => ?_, fun k hk => ?_, fun k hk => ?_, fun k hk => ?_, fun k hk => ?_, fun k hk => ?_, fun k hk => ?_⟩
    · obtain ⟨cs', h1, n, h2⟩ := hrow k hk 0 (by omega); exact h1.trans (field_int Tryd.underlying93 h2 0 _ rfl Tryd.underlying21 cells32 rfl)
    · obtain ⟨cs', h1, n, h2⟩ := hrow k hk 1 (by omega); exact h1.trans (field_int Tryd.underlying93 h2 1 _ rfl Tryd.underlying21 cells32 rfl)
    · obtain ⟨cs', h1, n, h2⟩ := hrow k hk 2 (by omega); exact h1.trans (field_int Tryd.underlying93 h2 2 _ rfl Tryd.underlying5 cells8 rfl)
    · obtain ⟨cs', h1, n, h2⟩ := hrow k hk 3 (by omega); exact h1.trans (field_int Tryd.underlying93 h2 3 _ rfl Tryd.underlying5 cells8 rfl)
    · obtain ⟨cs', h1, n, h2⟩ := hrow k hk 4 (by omega); exact h1.trans (field_int Tryd.underlying93 h2 4 _ rfl Tryd.underlying5 cells8 rfl)
    · obtain ⟨cs', h1, n, h2⟩ := hrow k hk 5 (by omega); exact h1.trans (field_int Tryd.underlying93 h2 5 _ rfl Tryd.underlying5 cells8 rfl)
    · obtain ⟨cs', h1, n, h2⟩ := hrow k hk 6 (by omega); exact h1.trans (field_int Tryd.underlying93 h2 6 _ rfl Tryd.underlying3 cellsInt rfl)

theorem tab_of_laid {W : World} {l : List (String × DataW Unit)} (hm : ("palinode/utf.table", Rows.laid_palinode_utf_table) ∈ l) (h : laidMet Tryd.prog l W) : ∃ tb, Tab W tb :=
  tab_of_reads (Lib.laidMet.reads h hm)

/-- The table's cells, for the witness. -/
def tabCells : Array Value := #[.int .i32 0, .int .i32 127, .int .u8 0, .int .u8 127, .int .u8 0, .int .u8 0, .int .i64 1, .int .i32 128, .int .i32 2047, .int .u8 194, .int .u8 223, .int .u8 128, .int .u8 191, .int .i64 2, .int .i32 2048, .int .i32 4095, .int .u8 224, .int .u8 224, .int .u8 160, .int .u8 191, .int .i64 3, .int .i32 4096, .int .i32 53247, .int .u8 225, .int .u8 236, .int .u8 128, .int .u8 191, .int .i64 3, .int .i32 53248, .int .i32 55295, .int .u8 237, .int .u8 237, .int .u8 128, .int .u8 159, .int .i64 3, .int .i32 57344, .int .i32 65535, .int .u8 238, .int .u8 239, .int .u8 128, .int .u8 191, .int .i64 3, .int .i32 65536, .int .i32 262143, .int .u8 240, .int .u8 240, .int .u8 144, .int .u8 191, .int .i64 4, .int .i32 262144, .int .i32 1048575, .int .u8 241, .int .u8 243, .int .u8 128, .int .u8 191, .int .i64 4, .int .i32 1048576, .int .i32 1114111, .int .u8 244, .int .u8 244, .int .u8 128, .int .u8 143, .int .i64 4]
end Go.Proofs.YtafhogfbjklboaaDoor
