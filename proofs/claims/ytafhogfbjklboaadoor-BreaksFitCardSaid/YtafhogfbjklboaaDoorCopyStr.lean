/- Copying a string into a row of one's own. -/
import Derived.Test.YtafhogfbjklboaaDoorSubMem
import Derived.Laws.CopyOwn
import Derived.Laws.IdiomStrings
import Derived.Lib.BufferWrite
namespace Go.Proofs.YtafhogfbjklboaaDoor
open Go.RowKit Go.Sort Go.Lib
set_option linter.unusedSimpArgs false
set_option linter.unusedVariables false

theorem Tryd.info_u8 : (Tryd.prog.info? 5).map (fun i => (i.zero, i.size, i.bytes)) = some (some (.int .u8 0), 1, 1) := by kernel_rfl
/-- 'copy(left[to:], s)' as one step of a region that draws. -/
theorem step_copy_str {P : Program} {ops : Array Oper} {o : Oper} {a : Act} {w : World} {K : Act → World → Prop} {Q : Exit → Act → World → Prop} {E : Prop} (hgd : o.guard = none) (d s : Operand) (dT sT : TypeId)
    (ho : o.op = .call { callee := .builtin .copy, args := #[d, s], argTypes := #[dT, sT] }) (elem : TypeId) (hu : P.underlying dT = some (.slice elem)) (hsz : (P.info? elem).map (·.size) = some 1)
    (g off dLen dCap : Nat) (t : ByteArray) (hd : a.eval d = .slice (some ⟨g, off, none⟩) dLen dCap) (hs : a.eval s = .string t)
    (cur : List Value) (T : TypeId) (hg : w.heap[g]? = some (.cells cur.toArray T (0, 0))) (hle : t.size ≤ dLen) (hfit : off + t.size ≤ cur.length)
    (h : ∀ w', RowKit.Hid (w'.heap[g]? = some (.cells (splice cur off (byteCells t.data.toList)).toArray T (0, 0))) → w.grownBy w' (some g) → K (a.put o.dst (goInt t.size)) w') :
    if Region.wanted o (yielded ops a.tmps) = true then Oper.wp P o a w K Q else E := by
  have hw : Region.wanted o (yielded ops a.tmps) = true := by simp [Region.wanted, hgd]
  rw [if_pos hw]
  have hrun := run_copy_row_string (P := P) w dT sT o.type elem g off dLen dCap t cur.toArray T hu hsz hg hle (by simpa using hfit)
  unfold Oper.wp
  simp [execOp, ho, resolve, invoke, builtin, hd, hs, hrun, Result.andThen]
  refine h _ ?_ ⟨rfl, rfl, rfl, by simp [World.setRow], fun k _ hk => setRow_other w g k _ (fun e => hk (by rw [e]))⟩
  show _ = _
  have e := setRow_heap w g cur.toArray (List.take off cur ++ (byteCells t.data.toList ++ List.drop (off + t.size) cur)).toArray T (0, 0) hg
  have e2 : splice cur off (byteCells t.data.toList) = List.take off cur ++ (byteCells t.data.toList ++ List.drop (off + t.size) cur) := by unfold splice; rw [byteCells_length]; rfl
  rw [e2]
  exact e
theorem splice_row (done t : List UInt8) (rest : List Value) : splice (byteCells done ++ rest) done.length (byteCells t) = byteCells (done ++ t) ++ rest.drop t.length := by
  unfold splice
  rw [byteCells_length, byteCells_append, List.take_left' (byteCells_length _), List.drop_append, byteCells_length, List.drop_of_length_le (by rw [byteCells_length]; omega)]
  simp
theorem bytes_ext (s : ByteArray) (i j : Nat) : (s.extract i j).data.toList = (s.data.toList.drop i).take (j - i) := by
  simp [ByteArray.data_extract, Array.toList_extract, List.extract_eq_take_drop]
end Go.Proofs.YtafhogfbjklboaaDoor
