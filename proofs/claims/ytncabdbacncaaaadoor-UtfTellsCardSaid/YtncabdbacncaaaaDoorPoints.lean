/- utf.Points, walked: a range over a string that appends. -/
import Derived.Test.YtncabdbacncaaaaDoorMake
import Derived.Lib.OthersKept
import Derived.WalkSmall
namespace Go.Proofs.YtncabdbacncaaaaDoor
open Go.RowKit Go.Sort

theorem byt_bl (s : ByteArray) (i j : Nat) : byt s (i + j) = bl (s.data.toList.drop i) j := by
  by_cases h : i + j < s.size
  · rw [byt_of s _ h]
    unfold bl
    have : (s.data.toList.drop i).getD j 0 = s[i + j] := by
      simp [List.getD_eq_getElem?_getD, List.getElem?_drop]
      rw [Array.getElem?_eq_getElem (by simpa using h)]
      rfl
    rw [this]
  · unfold byt bl
    rw [get!_out s _ h, List.getD_eq_getElem?_getD, List.getElem?_eq_none (by simp; have : s.data.size = s.size := rfl; omega)]
    rfl

/-- The model's decoder at a code point. -/
theorem decode_enc (t : ByteArray) (pos : Nat) (c : Int) (h : scalar c) (rest : List UInt8) (hd : t.data.toList.drop pos = enc c ++ rest) :
    Utf8.decode t pos = (c.toNat, (enc c).length) := by
  have hlen := congrArg List.length hd
  rw [List.length_append, List.length_drop, bytes_length] at hlen
  have q0 := byt_bl t pos 0; have q1 := byt_bl t pos 1; have q2 := byt_bl t pos 2; have q3 := byt_bl t pos 3
  rw [hd] at q0 q1 q2 q3
  rw [Lib.decode_at]
  have p0 : byt t (pos + 0) = ((t.get! pos).toNat : Int) := rfl
  have p1 : byt t (pos + 1) = ((t.get! (pos + 1)).toNat : Int) := rfl
  have p2 : byt t (pos + 2) = ((t.get! (pos + 2)).toNat : Int) := rfl
  have p3 : byt t (pos + 3) = ((t.get! (pos + 3)).toNat : Int) := rfl
  rw [p0] at q0; rw [p1] at q1; rw [p2] at q2; rw [p3] at q3
  clear p0 p1 p2 p3
  generalize (t.get! pos).toNat = a0 at *
  generalize (t.get! (pos + 1)).toNat = a1 at *
  generalize (t.get! (pos + 2)).toNat = a2 at *
  generalize (t.get! (pos + 3)).toNat = a3 at *
  unfold scalar at h
  by_cases h1 : c ≤ 127
  · have e : enc c = [c.toNat.toUInt8] := by unfold enc Lib.encodeRune; rw [Lib.encodeRuneZ_one (by omega) h1]; rfl
    have g0 : bl (enc c ++ rest) 0 = c := by rw [e]; exact byte_of _ (by omega) (by omega)
    rw [g0] at q0
    have el : (enc c).length = 1 := by rw [e]; rfl
    rw [el]
    unfold Lib.decodeN
    rw [if_pos (by omega)]
    exact Prod.ext (by simp; omega) rfl
  · by_cases h2 : c ≤ 2047
    · have e : enc c = [(192 + c / 64).toNat.toUInt8, (128 + c % 64).toNat.toUInt8] := by unfold enc Lib.encodeRune; rw [Lib.encodeRuneZ_two (by omega) h2]; rfl
      have g0 : bl (enc c ++ rest) 0 = 192 + c / 64 := by rw [e]; exact byte_of _ (by omega) (by omega)
      have g1 : bl (enc c ++ rest) 1 = 128 + c % 64 := by rw [e]; exact byte_of _ (by omega) (by omega)
      rw [g0] at q0; rw [g1] at q1
      have el : (enc c).length = 2 := by rw [e]; rfl
      rw [el] at hlen ⊢
      unfold Lib.decodeN
      rw [if_neg (by omega), if_pos (by omega), if_pos (by omega)]
      exact Prod.ext (by simp; omega) rfl
    · by_cases h3 : c ≤ 65535
      · have e : enc c = [(224 + c / 4096).toNat.toUInt8, (128 + c / 64 % 64).toNat.toUInt8, (128 + c % 64).toNat.toUInt8] := by unfold enc Lib.encodeRune; rw [Lib.encodeRuneZ_three (by omega)]; rfl
        have g0 : bl (enc c ++ rest) 0 = 224 + c / 4096 := by rw [e]; exact byte_of _ (by omega) (by omega)
        have g1 : bl (enc c ++ rest) 1 = 128 + c / 64 % 64 := by rw [e]; exact byte_of _ (by omega) (by omega)
        have g2 : bl (enc c ++ rest) 2 = 128 + c % 64 := by rw [e]; exact byte_of _ (by omega) (by omega)
        rw [g0] at q0; rw [g1] at q1; rw [g2] at q2
        have el : (enc c).length = 3 := by rw [e]; rfl
        rw [el] at hlen ⊢
        unfold Lib.decodeN
        rw [if_neg (by omega), if_neg (by omega), if_pos (by omega), if_pos (by omega)]
        exact Prod.ext (by simp; omega) rfl
      · have e : enc c = [(240 + c / 262144).toNat.toUInt8, (128 + c / 4096 % 64).toNat.toUInt8, (128 + c / 64 % 64).toNat.toUInt8, (128 + c % 64).toNat.toUInt8] := by unfold enc Lib.encodeRune; rw [Lib.encodeRuneZ_four (by omega) (by omega)]; rfl
        have g0 : bl (enc c ++ rest) 0 = 240 + c / 262144 := by rw [e]; exact byte_of _ (by omega) (by omega)
        have g1 : bl (enc c ++ rest) 1 = 128 + c / 4096 % 64 := by rw [e]; exact byte_of _ (by omega) (by omega)
        have g2 : bl (enc c ++ rest) 2 = 128 + c / 64 % 64 := by rw [e]; exact byte_of _ (by omega) (by omega)
        have g3 : bl (enc c ++ rest) 3 = 128 + c % 64 := by rw [e]; exact byte_of _ (by omega) (by omega)
        rw [g0] at q0; rw [g1] at q1; rw [g2] at q2; rw [g3] at q3
        have el : (enc c).length = 4 := by rw [e]; rfl
        rw [el] at hlen ⊢
        unfold Lib.decodeN
        rw [if_neg (by omega), if_neg (by omega), if_neg (by omega), if_pos (by omega), if_pos (by omega)]
        exact Prod.ext (by simp; omega) rfl

theorem Tryd.info_int : (Tryd.prog.info? 3).map (fun i => (i.zero, i.size, i.bytes)) = some (some (.int .i64 0), 1, 8) := by kernel_rfl

set_option maxHeartbeats 1000000 in
set_option maxRecDepth 100000 in
/-- utf.Points. -/
theorem points_own (s : ByteArray) (w : World) (tb : Nat × Nat) (hs : s.size ≤ 1099511627776) (hT : Tab w tb) :
    Calls Tryd.prog 11 #[.string s] w fun e w' => ∃ v B, e = .returned v ∧ w'.ownsRow B 3 1 v (pts s.data.toList).length ((pts s.data.toList).map (Value.int .i64)) ∧ w.heap.size ≤ B ∧ Below w.heap.size w w' := by
  obtain ⟨i0, hi, hz0, hz1, hz2⟩ := info_parts Tryd.info_int
  have HG : Hid (Good (pts s.data.toList)) := good_pts' s.data.toList
  have HL : Hid ((pts s.data.toList).length ≤ 1099511627776) := by
    have := pts_length s.data.toList
    rw [bytes_length] at this
    exact Nat.le_trans this hs
  have HC : Hid (cln s.data.toList = flat (pts s.data.toList)) := rfl
  go_enter Tryd.func11, Tryd.ntmps11
  go_wp2_with (go_at_call 18; refine (clean_any s _ tb hs hT).mono ?_; rintro e w1 ⟨rfl, hb1⟩)
  go_loopw [3] (fun v wr => ∃ (cs1 cs2 : List Int), Hid (pts s.data.toList = cs1 ++ cs2) ∧ wr.ownsRow (w1.heap.size + 1) 3 1 v cs1.length (cs1.map (Value.int .i64)) ∧ wr.heap[w1.heap.size]? = some (.stringIter ⟨(cln s.data.toList).toArray⟩ (flat cs1).length) ∧ Below w.heap.size w wr) (fun _ wr => (cln s.data.toList).length - wr.iterPos w1.heap.size)
  case atStart =>
    refine ⟨[], pts s.data.toList, rfl, World.ownsRow_nil _ _ _ _, World.iter_heap w1 _ 0, hb1.trans ?_⟩
    exact ((Below.refl _ w1).alloc (Nat.le_refl _) _).mono hb1.size
  case round =>
    obtain ⟨cs1, cs2, HP, hown, hit, hb⟩ := hrel
    have hsz : w1.heap.size < wr.heap.size := (Array.getElem?_eq_some_iff.1 hit).1
    cases cs2 with
    | nil =>
      have hp : ¬ (flat cs1).length < (⟨(cln s.data.toList).toArray⟩ : ByteArray).size := by
        have e := HC.out
        rw [HP.out, List.append_nil] at e
        show ¬ _ < (cln s.data.toList).length
        rw [e]; omega
      have hnx : ∀ ty, (Instr.next (.pointer (some ⟨w1.heap.size, 0, none⟩)) true ty).run Tryd.prog wr = _ := fun ty => Lib.run_next_end_at wr w1.heap.size _ _ ty hit hp
      clear hp
      go_wp2
      go_ret
      have hP := HP.out
      rw [List.append_nil] at hP
      rw [hP]
      exact ⟨_, w1.heap.size + 1, rfl, hown, Nat.le_succ_of_le hb1.size, hb⟩
    | cons c cs3 =>
      have hsc : scalar c := HG.out c (by rw [HP.out]; simp)
      have hd : (⟨(cln s.data.toList).toArray⟩ : ByteArray).data.toList.drop (flat cs1).length = enc c ++ flat cs3 := by
        show (cln s.data.toList).drop (flat cs1).length = _
        rw [HC.out, HP.out, flat_append, flat_cons]
        exact List.drop_left' rfl
      have hde := decode_enc ⟨(cln s.data.toList).toArray⟩ (flat cs1).length c hsc (flat cs3) hd
      have hel := enc_length c
      have hp : (flat cs1).length < (⟨(cln s.data.toList).toArray⟩ : ByteArray).size := by
        have e := congrArg List.length hd
        rw [List.length_drop, List.length_append] at e
        have e2 : (⟨(cln s.data.toList).toArray⟩ : ByteArray).data.toList.length = (⟨(cln s.data.toList).toArray⟩ : ByteArray).size := rfl
        omega
      have hnx : ∀ ty, (Instr.next (.pointer (some ⟨w1.heap.size, 0, none⟩)) true ty).run Tryd.prog wr = .ok (.tuple #[.bool true, .int .i64 (flat cs1).length, .int .i32 c]) (wr.iterAt w1.heap.size ⟨(cln s.data.toList).toArray⟩ ((flat cs1).length + (enc c).length)) := by
        intro ty
        rw [Lib.run_next_any_at wr w1.heap.size _ _ ty hit hp, hde]
        unfold scalar at hsc
        simp only
        rw [Int.toNat_of_nonneg (by omega)]
      have hit2 := Lib.iterAt_heap wr w1.heap.size ⟨(cln s.data.toList).toArray⟩ (flat cs1).length ((flat cs1).length + (enc c).length) hit
      have hb2 := Lib.below_iterAt hb (k := w1.heap.size) hb1.size ⟨(cln s.data.toList).toArray⟩ ((flat cs1).length + (enc c).length)
      have hown2 := ownsRow_iterAt hown (k := w1.heap.size) (by omega) ⟨(cln s.data.toList).toArray⟩ ((flat cs1).length + (enc c).length)
      have hsz2 : w1.heap.size < (wr.iterAt w1.heap.size ⟨(cln s.data.toList).toArray⟩ ((flat cs1).length + (enc c).length)).heap.size := by rw [Lib.iterAt_size]; exact hsz
      have hm : Hid (wr.iterPos w1.heap.size = (flat cs1).length) := iterPos_of hit
      have hcl : Hid ((flat cs1).length < (cln s.data.toList).length) := hp
      have hlen : Hid (cs1.length + 1 ≤ 1099511627776) := by
        have := HL.out
        rw [HP.out, List.length_append, List.length_cons] at this
        show cs1.length + 1 ≤ _
        omega
      clear hit hb hown hsz hde hp hd
      generalize wr.iterAt w1.heap.size ⟨(cln s.data.toList).toArray⟩ ((flat cs1).length + (enc c).length) = wi at *
      unfold scalar at hsc
      go_wp2_with (at_builtin; refine wpList_append_own _ rfl _ _ 24 rfl (w1.heap.size + 1) 3 i0 (.int .i64 0) 1 8 Tryd.underlying24 hi hz0 hz1 hz2 rfl (by decide) _ _ _ rfl (hown2.alloc _) ⟨wi.heap.size, 0, none⟩ 1 1 [.int .i64 c] rfl rfl (cell_one_new _ _ _) ?c2 ?c3 ?c4 ?c5 ?_)
      case c2 => intro u hu; simp at hu; subst hu; rfl
      case c3 => have := hlen.out; unfold maxLen; omega
      case c4 => have := hlen.out; omega
      case c5 => simp; omega
      intro v' w2 hown' hgrow _
      have hit3 : w2.heap[w1.heap.size]? = some (.stringIter ⟨(cln s.data.toList).toArray⟩ ((flat cs1).length + (enc c).length)) := by
        rw [hgrow.block w1.heap.size (by simp; omega) (fun e => by have := (hown2.lt _ e.symm).1; omega)]
        rw [Below.heap_alloc wi _ _ hsz2]
        exact hit2
      have hb3 : Below w.heap.size w w2 := (hb2.alloc hb2.size _).grown hgrow (by have := hb2.size; simp; omega) (fun k hk => by have := (hown2.lt _ hk).1; have := hb1.size; omega)
      clear hown2 hgrow hit2 hb2
      go_wp2
      go_roundw
      case rel =>
        refine ⟨cs1 ++ [c], cs3, ?_, ?_, ?_, hb3⟩
        · show _ = _
          rw [HP.out]; simp
        · simpa using hown'
        · rw [flat_append, List.length_append]
          simpa [flat] using hit3
      case measure =>
        rw [iterPos_of hit3, hm.out]
        have := hcl.out
        omega

theorem ints_of_own {w : World} {B : Nat} {v : Value} {zs : List Int} (h : w.ownsRow B 3 1 v zs.length (zs.map (Value.int .i64))) : IntsAt w v zs := by
  rcases h.2 with ⟨h1, h2⟩ | ⟨g, cap, cur, h1, _, h3, h4, _, h6, h7⟩
  · exact Or.inl ⟨h1, List.eq_nil_of_length_eq_zero h2⟩
  · refine Or.inr ⟨g, 0, cap, h1, fun i hi => ?_⟩
    rw [Lib.cell_of_heap h3]
    have : (cur.toList.take (zs.length * 1))[0 + i]? = (zs.map (Value.int .i64))[0 + i]? := by rw [h7]
    rw [List.getElem?_take, if_pos (by omega)] at this
    simp [List.getD_eq_getElem?_getD, hi] at this ⊢
    exact this

/-- utf.Points, as a row of ints. -/
theorem points_any (s : ByteArray) (w : World) (tb : Nat × Nat) (hs : s.size ≤ 1099511627776) (hT : Tab w tb) :
    Calls Tryd.prog 11 #[.string s] w fun e w' => ∃ v, e = .returned v ∧ IntsAt w' v (pts s.data.toList) ∧ Below w.heap.size w w' :=
  (points_own s w tb hs hT).mono fun _ _ ⟨v, _, he, ho, _, hb⟩ => ⟨v, he, ints_of_own ho, hb⟩
end Go.Proofs.YtncabdbacncaaaaDoor
