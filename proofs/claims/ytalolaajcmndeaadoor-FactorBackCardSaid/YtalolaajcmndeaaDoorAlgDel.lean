/- algebra's Delete. -/
import Derived.Test.YtalolaajcmndeaaDoorAlgExp
import Derived.Test.YtalolaajcmndeaaDoorCopyStr
import Derived.Laws.CopyOwn
import Derived.Laws.IdiomStrings
import Derived.Lib.BufferWrite
namespace Go.Proofs.YtalolaajcmndeaaDoor
open Go.RowKit Go.Sort Go.Lib
set_option linter.unusedSimpArgs false
set_option linter.unusedVariables false

/-- The bytes at places that are 0. -/
def del : List Int → List UInt8 → List UInt8
  | c :: L, b :: bs => if c = 0 then b :: del L bs else del L bs
  | _, _ => []
theorem del_nil (L : List Int) : del L [] = [] := by cases L <;> rfl
theorem del_keep (xs : List UInt8) (L : List Int) (bs : List UInt8) : del (List.replicate xs.length 0 ++ L) (xs ++ bs) = xs ++ del L bs := by
  induction xs with
  | nil => rfl
  | cons x xs ih =>
    show (if (0 : Int) = 0 then x :: del (List.replicate xs.length 0 ++ L) (xs ++ bs) else _) = _
    rw [if_pos rfl, ih]; rfl
theorem del_drop {c : Int} (h : c ≠ 0) (xs : List UInt8) (L : List Int) (bs : List UInt8) : del (List.replicate xs.length c ++ L) (xs ++ bs) = del L bs := by
  induction xs with
  | nil => rfl
  | cons x xs ih =>
    show (if c = 0 then _ else del (List.replicate xs.length c ++ L) (xs ++ bs)) = _
    rw [if_neg h, ih]
theorem del_len : ∀ (L : List Int) (bs : List UInt8), L.length = bs.length → (del L bs).length = zrc L
  | [], [], _ => rfl
  | [], b :: bs, h => by simp at h
  | c :: L, [], h => by simp at h
  | c :: L, b :: bs, h => by
    have ih := del_len L bs (by simpa using h)
    show (if c = 0 then b :: del L bs else del L bs).length = _
    unfold zrc at *
    by_cases e : c = 0
    · simp [e, ih]
    · simp [e, ih]
set_option maxHeartbeats 1600000 in
theorem delete_len {w : World} {p : Value} {L : List Int} (s : ByteArray) (hp : Sub w p L) (hL : L.length ≤ 20000) (hs : s.size ≤ 1073741824) (hne : L.length ≠ s.size) :
    Calls Tryd.prog 27 #[p, .string s] w fun e w' => e = .returned (.tuple #[.string ⟨#[]⟩, .int .i64 80]) ∧ Below w.heap.size w w' := by
  have HP := Hid.mk7 hp
  have H1 : Hid (∀ W, Sub W p L → Calls Tryd.prog 35 #[p] W fun e w' => e = .returned (.int .i64 (L.length : Nat)) ∧ Below W.heap.size W w') := fun W h => len_any7 h (by omega)
  have d0 : ((L.length : Int) != (s.size : Int)) = true := by simp; omega
  have d1 : (L.length != s.size) = true := by simpa using hne
  clear hp hne
  go_enter Tryd.func27, Tryd.ntmps27
  go_wp2_with fail
  refine (orNone_any HP.out).mono ?_
  rintro e w1 ⟨rfl, rfl⟩
  go_wp2_with fail
  refine (H1.out _ HP.out).mono ?_
  rintro e w3 ⟨rfl, b3⟩
  go_wp2
  go_ret2
  exact ⟨rfl, b3⟩
/-- What the loop hands on. -/
structure Td (L : List Int) (s : ByteArray) (w : World) (B g : Nat) (wr : World) (qs : List Sg) (r : ByteArray) (done : List UInt8) (rest : List Value) : Prop where
  row : wr.heap[g]? = some (.cells (byteCells done ++ rest).toArray 5 (0, 0))
  eq : del L s.data.toList = done ++ del (xp qs) r.data.toList
  len : r.size = (xp qs).length
  zr : rest.length = zrc (xp qs)
  be : Below w.heap.size w wr
theorem td_keep {L : List Int} {s : ByteArray} {w : World} {B g : Nat} {wr w' : World} {n : Int} {qs : List Sg} {r : ByteArray} {done : List UInt8} {rest : List Value} (h : Td L s w B g wr ((n, 0) :: qs) r done rest) (hn : 1 ≤ n)
    (hrow : w'.heap[g]? = some (.cells (splice (byteCells done ++ rest) done.length (byteCells (r.extract 0 n.toNat).data.toList)).toArray 5 (0, 0))) (hb : Below w.heap.size w w') :
    Td L s w B g w' qs (r.extract n.toNat r.size) (done ++ (r.extract 0 n.toNat).data.toList) (rest.drop n.toNat) := by
  have hx : xp ((n, 0) :: qs) = List.replicate n.toNat 0 ++ xp qs := rfl
  have hl := h.len
  rw [hx, List.length_append, List.length_replicate] at hl
  have e1 : (r.extract 0 n.toNat).data.toList = r.data.toList.take n.toNat := by rw [bytes_ext]; simp
  have e2 : (r.extract n.toNat r.size).data.toList = r.data.toList.drop n.toNat := by rw [bytes_ext, List.take_of_length_le]; simp
  have e3 : (r.data.toList.take n.toNat).length = n.toNat := by simp; have : r.data.size = r.size := rfl; omega
  refine ⟨?_, ?_, ?_, ?_, hb⟩
  · rw [hrow, splice_row, e1, e3]
  · rw [h.eq, hx, e1, e2, List.append_assoc]
    congr 1
    have := del_keep (r.data.toList.take n.toNat) (xp qs) (r.data.toList.drop n.toNat)
    rw [e3, List.take_append_drop] at this
    exact this
  · rw [ByteArray.size_extract]; omega
  · have := h.zr
    rw [hx, zrc_append, zrc_rep0] at this
    simp; omega
theorem td_drop {L : List Int} {s : ByteArray} {w : World} {B g : Nat} {wr w' : World} {n c : Int} {qs : List Sg} {r : ByteArray} {done : List UInt8} {rest : List Value} (h : Td L s w B g wr ((n, c) :: qs) r done rest) (hn : 1 ≤ n) (hc : c ≠ 0)
    (hrow : w'.heap[g]? = wr.heap[g]?) (hb : Below w.heap.size w w') : Td L s w B g w' qs (r.extract n.toNat r.size) done rest := by
  have hx : xp ((n, c) :: qs) = List.replicate n.toNat c ++ xp qs := rfl
  have hl := h.len
  rw [hx, List.length_append, List.length_replicate] at hl
  have e2 : (r.extract n.toNat r.size).data.toList = r.data.toList.drop n.toNat := by rw [bytes_ext, List.take_of_length_le]; simp
  have e3 : (r.data.toList.take n.toNat).length = n.toNat := by simp; have : r.data.size = r.size := rfl; omega
  refine ⟨hrow.trans h.row, ?_, ?_, ?_, hb⟩
  · rw [h.eq, hx, e2]
    congr 1
    have := del_drop hc (r.data.toList.take n.toNat) (xp qs) (r.data.toList.drop n.toNat)
    rw [e3, List.take_append_drop] at this
    exact this
  · rw [ByteArray.size_extract]; omega
  · have := h.zr
    rw [hx, zrc_append, zrc_rep _ hc] at this
    omega
set_option maxHeartbeats 4000000 in
set_option maxRecDepth 100000 in
theorem delete_any {w : World} {p : Value} {L : List Int} (s : ByteArray) (hp : Sub w p L) (hL : Ok8 L) (hs : L.length = s.size) :
    Calls Tryd.prog 27 #[p, .string s] w fun e w' => e = .returned (.tuple #[.string ⟨(del L s.data.toList).toArray⟩, .int .i64 0]) ∧ Below w.heap.size w w' := by
  obtain ⟨i0, hi, hz0, hz1, hz2⟩ := info_parts Tryd.info_u8
  have hsz1 : (Tryd.prog.info? 5).map (·.size) = some 1 := by rw [hi]; simp [hz1]
  have HP := Hid.mk7 hp
  have hL1 := hL.1
  obtain ⟨N, hN⟩ : ∃ N : Nat, s.size = N := ⟨_, rfl⟩
  obtain ⟨Z, hZ⟩ : ∃ N : Nat, zrc L = N := ⟨_, rfl⟩
  have hz := zrc_szc hL.2
  have H1 : Hid (∀ W, Sub W p L → Calls Tryd.prog 35 #[p] W fun e w' => e = .returned (.int .i64 (N : Nat)) ∧ Below W.heap.size W w') := fun W h => by have := len_any7 h (by omega); rw [hs, hN] at this; exact this
  have H2 : Hid (∀ W, Sub W p L → Calls Tryd.prog 36 #[p] W fun e w' => e = .returned (.int .i64 ((N : Int) - (Z : Int))) ∧ Below W.heap.size W w') := fun W h => by
    have := size_any7 h (by omega)
    rw [show ((szc L : Nat) : Int) = (N : Int) - (Z : Int) from by omega] at this
    exact this
  have H3 : Hid (∀ W, Sub W p L → Calls Tryd.prog 49 #[p] W fun e w' => ∃ v, e = .returned v ∧ Own w' W.heap.size v (rle L) ∧ Below W.heap.size W w') := fun W h => segs_own h (by omega)
  have hNZ : Z ≤ N := by omega
  have hNl : N ≤ 20000 := by omega
  have HPOS : Hid (∀ r ∈ rle L, 1 ≤ r.1) := fun r hr => rle_pos hr
  have HXP : Hid (xp (rle L) = L) := xp_rle L
  have hrl : (rle L).length ≤ 20000 := Nat.le_trans (rle_len L) (by omega)
  have HST : Hid (L.length = s.size) := hs
  have HZ : Hid (zrc L = Z) := hZ
  have hdl : (del L s.data.toList).length = Z := by rw [del_len L _ (by rw [hs]; rfl)]; exact hZ
  have HDL := Hid.mk7 hdl
  clear hp hL hz hdl hZ hL1 hs
  generalize rle L = rs at *
  have d0 : ((N : Int) != (N : Int)) = false := by simp
  go_enter Tryd.func27, Tryd.ntmps27
  go_wp2_with fail
  refine (orNone_any HP.out).mono ?_
  rintro e w1 ⟨rfl, rfl⟩
  go_wp2_with fail
  refine (H1.out _ HP.out).mono ?_
  rintro e w2 ⟨rfl, b2⟩
  go_wp2_with fail
  refine (H1.out _ (HP.out.later b2)).mono ?_
  rintro e w3 ⟨rfl, b3⟩
  have g3 := b2.trans (b3.mono b2.size)
  go_wp2_with fail
  refine (H2.out _ (HP.out.later g3)).mono ?_
  rintro e w4 ⟨rfl, b4⟩
  have g4 := g3.trans (b4.mono g3.size)
  clear b2 b3 b4 g3 H1 H2
  have hm4 : w1.heap.size ≤ w4.heap.size := g4.size
  go_wp2_with (at_make; refine wpList_make_full _ rfl _ _ 44 rfl w1.heap.size 5 i0 (.int .u8 0) 1 Tryd.underlying44 hi hz0 hz1 .i64 .i64 _ _ Z rfl rfl (by omega) (by omega) (by rw [hz2]; omega) (by unfold maxLen; omega) hm4 ?_)
  intro w5 hown hgrow
  have hrow5 : ∃ rest : List Value, w5.heap[w4.heap.size]? = some (.cells rest.toArray 5 (0, 0)) ∧ rest.length = Z := by
    rcases hown.2 with ⟨h1, _⟩ | ⟨g, cap, cur, h1, _, h3, _, _, h5, _⟩
    · cases h1
    · cases h1
      exact ⟨cur.toList, by simpa using h3, by simpa using h5⟩
  obtain ⟨rest0, hr5, hl5⟩ := hrow5
  have hg5 : w4.heap.size < w5.heap.size := (Array.getElem?_eq_some_iff.1 hr5).1
  have g5 : Below w1.heap.size w1 w5 := g4.grown hgrow g4.size (fun j hj => by cases hj)
  have HR5 := Hid.mk7 hr5
  clear hown hgrow hr5 g4
  generalize w4.heap.size = g at *
  go_wp2_with fail
  refine (H3.out _ (HP.out.later g5)).mono ?_
  rintro e w6 ⟨v, rfl, ho, b6⟩
  have HO6 := Hid.mk7 ho
  have HT6 : Hid (Td L s w1 0 g w6 (rs.drop 0) s [] rest0) := ⟨(b6.block g hg5).trans HR5.out, by show _ = [] ++ del (xp rs) _; rw [HXP.out]; rfl, by show _ = (xp rs).length; rw [HXP.out]; exact HST.out.symm, by show _ = zrc (xp rs); rw [HXP.out, HZ.out]; exact hl5, g5.trans (b6.mono g5.size)⟩
  obtain ⟨a, cap, rfl, hcap, hgo⟩ := own_shape ho
  have HGO := Hid.mk7 hgo
  clear ho hgo b6 g5 HR5 H3
  go_wp2
  go_loopw [1, 7, 26] (fun sv tv iv wr => ∃ (k : Nat) (r : ByteArray) (done : List UInt8) (rest : List Value), k ≤ rs.length ∧ iv = .int .i64 (k : Nat) ∧ sv = .string r ∧ tv = .int .i64 (done.length : Nat) ∧ Hid (Td L s w1 0 g wr (rs.drop k) r done rest) ∧ Hid (Own wr w5.heap.size (.slice a rs.length cap) rs)) (fun _ _ iv _ => rs.length - (intOf iv).toNat)
  case atStart => exact ⟨0, s, [], rest0, Nat.zero_le _, rfl, rfl, rfl, HT6, HO6⟩
  case round =>
    clear HT6 HO6
    obtain ⟨k, r, done, rest, hk, rfl, rfl, rfl, HT, HO⟩ := hrel
    by_cases hlt : k < rs.length
    · obtain ⟨⟨n, c⟩, hr⟩ : ∃ r, rs[k]? = some r := ⟨rs[k], List.getElem?_eq_getElem hlt⟩
      have hn : 1 ≤ n := HPOS.out (n, c) (List.mem_of_getElem? hr)
      obtain ⟨gs, rfl⟩ := HGO.out (fun e => by rw [e] at hlt; simp at hlt)
      have c0 : wr.cell? ⟨gs, k * 2, none⟩ = some (.int .i64 n) := by rw [World.ownsRow.cellAt HO.out _ (by omega)]; exact (cs_get hr).1
      have c1 : wr.cell? ⟨gs, k * 2 + 1, none⟩ = some (.int .i64 c) := by rw [World.ownsRow.cellAt HO.out _ (by omega)]; exact (cs_get hr).2
      have hdr : rs.drop k = (n, c) :: rs.drop (k + 1) := by rw [List.drop_eq_getElem_cons hlt]; congr 1; rw [List.getElem?_eq_getElem hlt] at hr; exact Option.some.inj hr
      rw [hdr] at HT
      have hgs := (HO.out.lt gs rfl).1
      have hle := HT.out.len
      have hzr := HT.out.zr
      have hdz := HDL.out
      rw [HT.out.eq, List.length_append, del_len _ _ (by rw [← HT.out.len]; rfl), ← hzr] at hdz
      rw [show xp ((n, c) :: rs.drop (k + 1)) = List.replicate n.toNat c ++ xp (rs.drop (k + 1)) from rfl, List.length_append, List.length_replicate] at hle
      have hrN : r.size ≤ 20000 := by
        have e := xp_split hr
        have e2 := congrArg List.length (congrArg xp (List.take_append_drop k rs))
        rw [xp_append, HXP.out, HST.out, List.length_append, hdr] at e2
        have := HT.out.len
        omega
      obtain ⟨m, rfl⟩ : ∃ m : Nat, n = (m : Int) := ⟨n.toNat, by omega⟩
      rw [Int.toNat_natCast] at hle
      have hmr : m ≤ r.size := by omega
      have HK2 := Hid.mk7 hdr
      have hb2 := below_new7 HT.out.be (.cells #[.int .i64 (m : Nat), .int .i64 c] 79)
      have hgw : g < wr.heap.size := (Array.getElem?_eq_some_iff.1 HT.out.row).1
      have HTA : Hid (Td L s w1 0 g (wr.alloc (.cells #[.int .i64 (m : Nat), .int .i64 c] 79)) (((m : Int), c) :: rs.drop (k + 1)) r done rest) := ⟨(Below.heap_alloc _ _ _ hgw).trans HT.out.row, HT.out.eq, HT.out.len, HT.out.zr, hb2⟩
      have HOA : Hid (Own (wr.alloc (.cells #[.int .i64 (m : Nat), .int .i64 c] 79)) w5.heap.size (.slice (some ⟨gs, 0, none⟩) rs.length cap) rs) := World.ownsRow.alloc HO.out _
      clear hr hdr hb2 HO HT hle
      by_cases hc0 : c = 0
      · subst hc0
        have hzm : m ≤ rest.length := by
          have := HTA.out.zr
          rw [show xp (((m : Int), 0) :: rs.drop (k + 1)) = List.replicate m 0 ++ xp (rs.drop (k + 1)) from rfl, zrc_append, zrc_rep0] at this
          omega
        have hdZ : done.length < Z := by omega
        clear hzr
        go_wp2
        have e0 : (wr.alloc (.cells #[.int .i64 (m : Nat), .int .i64 0] 79)).cell? ⟨wr.heap.size, 0, none⟩ = some (.int .i64 (m : Nat)) := by rw [World.cell?_alloc_new]; rfl
        clear c0 c1
        have HE0 := Hid.mk7 e0
        have hbg : wr.heap.size ≠ g := by omega
        have hbl : wr.heap.size < (wr.alloc (.cells #[.int .i64 (m : Nat), .int .i64 0] 79)).heap.size := by simp
        generalize wr.alloc (.cells #[.int .i64 (m : Nat), .int .i64 0] 79) = W at *
        obtain ⟨t, ht⟩ : ∃ t : ByteArray, r.extract 0 m = t := ⟨_, rfl⟩
        have hts : t.size = m := by rw [← ht, ByteArray.size_extract]; omega
        have HTT := Hid.mk7 ht
        have HTS := Hid.mk7 hts
        have hx0 : (byteCells done ++ rest).length = Z := by rw [List.length_append, byteCells_length]; omega
        have HX0 := Hid.mk7 hx0
        have HROW := Hid.mk7 HTA.out.row
        generalize hcur : byteCells done ++ rest = cur at *
        clear hx0
        have f1 : done.length ≤ Z := by omega
        have f2 : ¬ (Z = done.length) := by omega
        have f3 : IntKind.i64.wrap ((done.length : Int) + (m : Int)) = (done.length : Int) + (m : Int) := IntWalk.i64_in _ (by omega)
        have f4 : ((m : Int) < 0) = False := by simp
        have f5 : ((m : Int) ≤ (r.size : Int)) = True := by simp; omega
        go_region_law (refine step_copy_str rfl (.tmp 36) (.tmp 40) 44 9 rfl 5 Tryd.underlying44 hsz1 g done.length (Z - done.length) (Z - done.length) t (by simp [Act.eval, Act.put]) (by simp [Act.eval, Act.put, ht]) cur 5 HROW.out (by rw [hts]; omega) (by rw [HX0.out, hts]; omega) ?_; intro W2 hg2 hgr2)
        have e2 : W2.cell? ⟨wr.heap.size, 0, none⟩ = some (.int .i64 (m : Nat)) := hgr2.cell HE0.out (fun h => hbg (Option.some.inj h))
        have be2 : Below w1.heap.size w1 W2 := HTA.out.be.drew.grown hgr2 HTA.out.be.size (fun j hj => by cases hj; exact hm4)
        have HT2 : Hid (Td L s w1 0 g W2 (rs.drop (k + 1)) (r.extract m r.size) (done ++ t.data.toList) (rest.drop m)) := by
          have h1 := td_keep (w' := W2) HTA.out hn (by rw [Int.toNat_natCast, HTT.out, hcur]; exact hg2.out) be2
          rw [Int.toNat_natCast, HTT.out] at h1
          exact h1
        have HO2 : Hid (Own W2 w5.heap.size (.slice (some ⟨gs, 0, none⟩) rs.length cap) rs) := World.ownsRow.kept (show Own W.drew _ _ _ from HOA.out) hgr2 (Or.inr (fun h => by have h2 : gs = g := Option.some.inj h; omega))
        have HL2 : Hid ((done ++ t.data.toList).length = done.length + m) := by show _ = _; rw [List.length_append]; congr 1
        clear hg2 hgr2 HTA HOA HROW be2 e0 HE0 hts ht f3 f4 f5
        go_wp2
        go_roundw
        case rel => exact ⟨k + 1, _, _, _, by omega, by go_num, rfl, by rw [HL2.out]; go_num, HT2, HO2⟩
        case measure => simp [intOf]; omega
      · have dz : (c == 0) = false := by simpa using hc0
        have e0 : (wr.alloc (.cells #[.int .i64 (m : Nat), .int .i64 c] 79)).cell? ⟨wr.heap.size, 0, none⟩ = some (.int .i64 (m : Nat)) := by rw [World.cell?_alloc_new]; rfl
        have HT2 : Hid (Td L s w1 0 g (wr.alloc (.cells #[.int .i64 (m : Nat), .int .i64 c] 79)) (rs.drop (k + 1)) (r.extract m r.size) done rest) := by
          have h1 := td_drop HTA.out hn hc0 rfl HTA.out.be
          rw [Int.toNat_natCast] at h1
          exact h1
        clear HTA hzr hc0
        go_wp2
        go_roundw
        case rel => exact ⟨k + 1, _, _, _, by omega, by go_num, rfl, rfl, HT2, HOA⟩
        case measure => simp [intOf]; omega
    · obtain rfl : k = rs.length := by omega
      have hr0 : rs.drop rs.length = [] := List.drop_length
      rw [hr0] at HT
      have hrest : rest = [] := List.eq_nil_of_length_eq_zero HT.out.zr
      subst hrest
      have hde : del L s.data.toList = done := by have := HT.out.eq; rw [show del (xp []) r.data.toList = [] from rfl, List.append_nil] at this; exact this
      have hdz := HDL.out
      rw [hde] at hdz
      have HDE := Hid.mk7 hde
      have hrow := HT.out.row
      rw [List.append_nil] at hrow
      have be := HT.out.be
      have hcv : ∀ W : World, W = wr → (convert 44 9 (.slice (some ⟨g, 0, none⟩) Z Z)).run Tryd.prog W = .ok (.string ⟨done.toArray⟩) W := fun W e => by
        subst e
        have := run_convert_bytes_back (P := Tryd.prog) W 44 9 5 ⟨g, 0, none⟩ Z done Tryd.underlying44 Tryd.underlying5 Tryd.underlying9 (fun j hj => by
          rw [addr_add7]
          simp [World.cell?, hrow, byteCells, hj])
        rw [hdz] at this
        exact this
      have hcv2 := hcv wr rfl
      clear HT hrow hcv hr0 hde HO
      go_wp2
      go_ret2
      exact ⟨by rw [HDE.out]; rfl, be⟩
end Go.Proofs.YtalolaajcmndeaaDoor
