/- utf.Clean, walked, over a builder of strings. -/
import Derived.Test.YtfgefdkkjfjjjaaDoorTxt
import Derived.Test.YtfgefdkkjfjjjaaDoorShelf
import Derived.BigCall
namespace Go.Proofs.YtfgefdkkjfjjjaaDoor
open Go.RowKit Go.Sort

theorem builderAt_later {T e : TypeId} {B b : Nat} {p : Value} {bs : List Value} {W W' : World} (h : Lib.BuilderAtF T e B b p bs W) (hb : Below W.heap.size W W') : Lib.BuilderAtF T e B b p bs W' := by
  have hlt := h.lt
  obtain ⟨hB, v, hv, hown, hne⟩ := h
  exact ⟨hB, v, (hb.block b hlt).trans hv, hown.kept (row := none) ⟨hb.os, hb.tape, hb.output, hb.size, fun k hk _ => hb.block k hk⟩ (Classical.em _), hne⟩
theorem builder_later {T e : TypeId} {B b : Nat} {bs : List Value} {W W' : World} (h : Lib.IsBuilderF T e B b bs W) (hb : Below W.heap.size W W') : Lib.IsBuilderF T e B b bs W' :=
  h.elim (fun x => .inl (builderAt_later x hb)) (fun x => .inr (builderAt_later x hb))

set_option maxHeartbeats 1000000 in
set_option maxRecDepth 100000 in
/-- utf.Clean. -/
theorem clean_any (s : ByteArray) (w : World) (tb : Nat × Nat) (hs : s.size ≤ 1099511627776) (hT : Tab w tb) :
    Calls Tryd.prog 26 #[.string s] w fun e w' => e = .returned (.string ⟨(cln s.data.toList).toArray⟩) ∧ Below w.heap.size w w' := by
  have hmax : s.size ≤ maxLen := by unfold maxLen; omega
  go_enter Tryd.func26, Tryd.ntmps26
  go_wp2
  go_loopw [4] (fun j wr => ∃ (k : Nat) (acc : List UInt8), k ≤ s.size ∧ j = .int .i64 k ∧ Lib.IsBuilderF 81 5 w.heap.size w.heap.size (Lib.byteCells acc) wr ∧ Below w.heap.size w wr ∧ acc.length ≤ 4 * k ∧ Hid (acc ++ cln (s.data.toList.drop k) = cln s.data.toList)) (fun j _ => s.size - (intOf j).toNat)
  case atStart => exact ⟨0, [], by omega, rfl, Lib.IsBuilderF.of (Lib.fresh_isBuilder 81 5 w), (Below.refl _ _).alloc (Nat.le_refl _) _, by simp, rfl⟩
  case round =>
    obtain ⟨k, acc, hk, rfl, hI, hb, hal, HA⟩ := hrel
    have hT2 := hT.later hb
    by_cases hlt : k < s.size
    · have hz := szN_le s k hlt
      have HZ : Hid (szN s k = sz1 (s.data.toList.drop k)) := szN_eq s k
      have hc := size_in s k wr tb hmax hlt hT2
      by_cases h0 : szN s k = 0
      · have hv : Hid (acc ++ enc 65533 ++ cln (s.data.toList.drop (k + 1)) = cln s.data.toList) := by
          rw [HZ.out] at h0
          have e := cln_bad (drop_ne s k hlt) h0
          rw [List.drop_drop] at e
          show acc ++ enc 65533 ++ _ = _
          rw [← HA.out, e, List.append_assoc]
        rw [h0] at hc
        clear h0 hz HA HZ
        go_wp2_with (go_at_call 39; refine hc.mono ?_; rintro e w1 ⟨rfl, hb1⟩)
        have hI1 := builder_later hI hb1
        have hsz : w.heap.size ≤ w1.heap.size := Nat.le_trans hb.size hb1.size
        refine (Tryd.Builder_WriteRune_k w.heap.size w.heap.size _ 65533 (by omega) (by omega) _ hI1 (by rw [Lib.byteCells_length]; omega) hsz).mono ?_
        rintro e w2 ⟨rfl, h1, b1, k1⟩
        go_wp2
        go_roundw
        case rel =>
          refine ⟨k + 1, acc ++ enc 65533, by omega, by go_num, ?_, (hb.trans (hb1.mono hb.size)).trans b1, ?_, hv⟩
          · rw [Lib.byteCells_append, enc, Lib.byteCells_encodeRune]; exact Or.inr h1
          · have := enc_length 65533; rw [List.length_append]; omega
        case measure => simp [intOf]; omega
      · have hv : Hid (acc ++ (s.extract k (k + (szN s k).toNat)).data.toList ++ cln (s.data.toList.drop (k + (szN s k).toNat)) = cln s.data.toList) := by
          have h0' := h0
          rw [HZ.out] at h0'
          have e := cln_step (drop_ne s k hlt) h0'
          rw [List.drop_drop, ← HZ.out] at e
          show acc ++ _ ++ _ = _
          rw [← HA.out, e, List.append_assoc, extract_bytes, Nat.add_sub_cancel_left]
        have hne : (szN s k == 0) = false := by simpa using h0
        have hpos : 1 ≤ szN s k := by omega
        clear h0 HZ HA
        generalize szN s k = z at *
        obtain ⟨m, rfl⟩ : ∃ m : Nat, z = m := ⟨z.toNat, by omega⟩
        rw [Int.toNat_natCast] at hv
        go_wp2_with (go_at_call 39; refine hc.mono ?_; rintro e w1 ⟨rfl, hb1⟩)
        have hI1 := builder_later hI hb1
        have hsz : w.heap.size ≤ w1.heap.size := Nat.le_trans hb.size hb1.size
        have hex : (s.extract k (k + m)).size = m := by rw [ByteArray.size_extract]; omega
        have HX : Hid ((s.extract k (k + m)).size = m) := hex
        clear hex
        refine (Tryd.Builder_WriteString_k w.heap.size w.heap.size _ (s.extract k (k + m)) _ hI1 (by rw [Lib.byteCells_length, HX.out]; omega) hsz).mono ?_
        rintro e w2 ⟨rfl, h1, b1, k1⟩
        go_wp2
        go_roundw
        case rel =>
          refine ⟨k + m, acc ++ (s.extract k (k + m)).data.toList, by omega, by go_num, ?_, (hb.trans (hb1.mono hb.size)).trans b1, ?_, hv⟩
          · rw [Lib.byteCells_append, ← Lib.strCells_eq]; exact Or.inr h1
          · rw [List.length_append, bytes_length, HX.out]; omega
        case measure => simp [intOf]; omega
    · go_wp2_with (go_at_call 42; refine (Tryd.Builder_String_any_k w.heap.size w.heap.size acc _ hI hb.size).mono ?_)
      rintro e w1 ⟨rfl, _, b1, _⟩
      go_wp2
      go_ret
      have ha := HA.out
      rw [drop_all s k (by omega), cln_nil, List.append_nil] at ha
      subst ha
      exact ⟨rfl, hb.trans b1⟩
end Go.Proofs.YtfgefdkkjfjjjaaDoor
