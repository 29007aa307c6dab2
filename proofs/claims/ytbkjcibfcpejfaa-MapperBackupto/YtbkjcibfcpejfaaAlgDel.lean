/- algebra's Delete. -/
import Derived.Test.YtbkjcibfcpejfaaAlgExp
import Derived.Laws.CopyOwn
import Derived.Laws.IdiomStrings
import Derived.Lib.BufferWrite
namespace Go.Proofs.Ytbkjcibfcpejfaa
open Go.RowKit Go.Sort Go.Lib
set_option linter.unusedSimpArgs false
set_option linter.unusedVariables false

/-- The bytes at places that are 0. -/
def del : List Int → List UInt8 → List UInt8
  | c :: L, b :: bs => if c = 0 then b :: del L bs else del L bs
  | _, _ => []
theorem del_nil (L : List Int) : del L [] = [] := by cases L <;> rfl
theorem del_keep (xs : List UInt8) (L : List Int) (bs : List UInt8) : del (List.replicate xs.length 0 ++ L) (xs ++ bs) = xs ++ del L bs := by
  induction xs with
  | nil => rfl
  | cons x xs ih =>
    show (if (0 : Int) = 0 then x :: del (List.replicate xs.length 0 ++ L) (xs ++ bs) else _) = _
    rw [if_pos rfl, ih]; rfl
theorem del_drop {c : Int} (h : c ≠ 0) (xs : List UInt8) (L : List Int) (bs : List UInt8) : del (List.replicate xs.length c ++ L) (xs ++ bs) = del L bs := by
  induction xs with
  | nil => rfl
  | cons x xs ih =>
    show (if c = 0 then _ else del (List.replicate xs.length c ++ L) (xs ++ bs)) = _
    rw [if_neg h, ih]
theorem del_len : ∀ (L : List Int) (bs : List UInt8), L.length = bs.length → (del L bs).length = zrc L
  | [], [], _ => rfl
  | [], b :: bs, h => by simp at h
  | c :: L, [], h => by simp at h
  | c :: L, b :: bs, h => by
    have ih := del_len L bs (by simpa using h)
    show (if c = 0 then b :: del L bs else del L bs).length = _
    unfold zrc at *
    by_cases e : c = 0
    · simp [e, ih]
    · simp [e, ih]
theorem Try.info_u8 : (Try.prog.info? 5).map (fun i => (i.zero, i.size, i.bytes)) = some (some (.int .u8 0), 1, 1) := by kernel_rfl
/-- 'copy(left[to:], s)' as one step of a region that draws. -/
theorem step_copy_str {P : Program} {ops : Array Oper} {o : Oper} {a : Act} {w : World} {K : Act → World → Prop} {Q : Exit → Act → World → Prop} {E : Prop} (hgd : o.guard = none) (d s : Operand) (dT sT : TypeId)
    (ho : o.op = .call { callee := .builtin .copy, args := #[d, s], argTypes := #[dT, sT] }) (elem : TypeId) (hu : P.underlying dT = some (.slice elem)) (hsz : (P.info? elem).map (·.size) = some 1)
    (g off dLen dCap : Nat) (t : ByteArray) (hd : a.eval d = .slice (some ⟨g, off, none⟩) dLen dCap) (hs : a.eval s = .string t)
    (cur : List Value) (T : TypeId) (hg : w.heap[g]? = some (.cells cur.toArray T (0, 0))) (hle : t.size ≤ dLen) (hfit : off + t.size ≤ cur.length)
    (h : ∀ w', RowKit.Hid (w'.heap[g]? = some (.cells (splice cur off (byteCells t.data.toList)).toArray T (0, 0))) → w.grownBy w' (some g) → K (a.put o.dst (goInt t.size)) w') :
    if Region.wanted o (yielded ops a.tmps) = true then Oper.wp P o a w K Q else E := by
  have hw : Region.wanted o (yielded ops a.tmps) = true := by simp [Region.wanted, hgd]
  rw [if_pos hw]
  have hrun := run_copy_row_string (P := P) w dT sT o.type elem g off dLen dCap t cur.toArray T hu hsz hg hle (by simpa using hfit)
  unfold Oper.wp
  simp [execOp, ho, resolve, invoke, builtin, hd, hs, hrun, Result.andThen]
  refine h _ ?_ ⟨rfl, rfl, rfl, by simp [World.setRow], fun k _ hk => setRow_other w g k _ (fun e => hk (by rw [e]))⟩
  show _ = _
  have e := setRow_heap w g cur.toArray (List.take off cur ++ (byteCells t.data.toList ++ List.drop (off + t.size) cur)).toArray T (0, 0) hg
  have e2 : splice cur off (byteCells t.data.toList) = List.take off cur ++ (byteCells t.data.toList ++ List.drop (off + t.size) cur) := by unfold splice; rw [byteCells_length]; rfl
  rw [e2]
  exact e
theorem splice_row (done t : List UInt8) (rest : List Value) : splice (byteCells done ++ rest) done.length (byteCells t) = byteCells (done ++ t) ++ rest.drop t.length := by
  unfold splice
  rw [byteCells_length, byteCells_append, List.take_left' (byteCells_length _), List.drop_append, byteCells_length, List.drop_of_length_le (by rw [byteCells_length]; omega)]
  simp
theorem bytes_ext (s : ByteArray) (i j : Nat) : (s.extract i j).data.toList = (s.data.toList.drop i).take (j - i) := by
  simp [ByteArray.data_extract, Array.toList_extract, List.extract_eq_take_drop]
/-- What the loop hands on. -/
structure Td (L : List Int) (s : ByteArray) (w : World) (B g : Nat) (wr : World) (qs : List Sg) (r : ByteArray) (done : List UInt8) (rest : List Value) : Prop where
  row : wr.heap[g]? = some (.cells (byteCells done ++ rest).toArray 5 (0, 0))
  eq : del L s.data.toList = done ++ del (xp qs) r.data.toList
  len : r.size = (xp qs).length
  zr : rest.length = zrc (xp qs)
  be : Below w.heap.size w wr
theorem td_keep {L : List Int} {s : ByteArray} {w : World} {B g : Nat} {wr w' : World} {n : Int} {qs : List Sg} {r : ByteArray} {done : List UInt8} {rest : List Value} (h : Td L s w B g wr ((n, 0) :: qs) r done rest) (hn : 1 ≤ n)
    (hrow : w'.heap[g]? = some (.cells (splice (byteCells done ++ rest) done.length (byteCells (r.extract 0 n.toNat).data.toList)).toArray 5 (0, 0))) (hb : Below w.heap.size w w') :
    Td L s w B g w' qs (r.extract n.toNat r.size) (done ++ (r.extract 0 n.toNat).data.toList) (rest.drop n.toNat) := by
  have hx : xp ((n, 0) :: qs) = List.replicate n.toNat 0 ++ xp qs := rfl
  have hl := h.len
  rw [hx, List.length_append, List.length_replicate] at hl
  have e1 : (r.extract 0 n.toNat).data.toList = r.data.toList.take n.toNat := by rw [bytes_ext]; simp
  have e2 : (r.extract n.toNat r.size).data.toList = r.data.toList.drop n.toNat := by rw [bytes_ext, List.take_of_length_le]; simp
  have e3 : (r.data.toList.take n.toNat).length = n.toNat := by simp; have : r.data.size = r.size := rfl; omega
  refine ⟨?_, ?_, ?_, ?_, hb⟩
  · rw [hrow, splice_row, e1, e3]
  · rw [h.eq, hx, e1, e2, List.append_assoc]
    congr 1
    have := del_keep (r.data.toList.take n.toNat) (xp qs) (r.data.toList.drop n.toNat)
    rw [e3, List.take_append_drop] at this
    exact this
  · rw [ByteArray.size_extract]; omega
  · have := h.zr
    rw [hx, zrc_append, zrc_rep0] at this
    simp; omega
theorem td_drop {L : List Int} {s : ByteArray} {w : World} {B g : Nat} {wr w' : World} {n c : Int} {qs : List Sg} {r : ByteArray} {done : List UInt8} {rest : List Value} (h : Td L s w B g wr ((n, c) :: qs) r done rest) (hn : 1 ≤ n) (hc : c ≠ 0)
    (hrow : w'.heap[g]? = wr.heap[g]?) (hb : Below w.heap.size w w') : Td L s w B g w' qs (r.extract n.toNat r.size) done rest := by
  have hx : xp ((n, c) :: qs) = List.replicate n.toNat c ++ xp qs := rfl
  have hl := h.len
  rw [hx, List.length_append, List.length_replicate] at hl
  have e2 : (r.extract n.toNat r.size).data.toList = r.data.toList.drop n.toNat := by rw [bytes_ext, List.take_of_length_le]; simp
  have e3 : (r.data.toList.take n.toNat).length = n.toNat := by simp; have : r.data.size = r.size := rfl; omega
  refine ⟨hrow.trans h.row, ?_, ?_, ?_, hb⟩
  · rw [h.eq, hx, e2]
    congr 1
    have := del_drop hc (r.data.toList.take n.toNat) (xp qs) (r.data.toList.drop n.toNat)
    rw [e3, List.take_append_drop] at this
    exact this
  · rw [ByteArray.size_extract]; omega
  · have := h.zr
    rw [hx, zrc_append, zrc_rep _ hc] at this
    omega
end Go.Proofs.Ytbkjcibfcpejfaa
