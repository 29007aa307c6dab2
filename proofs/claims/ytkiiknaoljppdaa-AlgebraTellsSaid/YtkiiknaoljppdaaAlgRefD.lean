/- The reference's Delete; layer 8's told. -/
import Derived.Test.YtkiiknaoljppdaaAlgRefO
namespace Go.Proofs.Ytkiiknaoljppdaa
open Go.RowKit Go.Sort Go.Lib
set_option linter.unusedSimpArgs false
set_option linter.unusedVariables false

/-- A row of one's own, of these bytes. -/
def OwnU (w : World) (B : Nat) (v : Value) (L : List UInt8) : Prop := w.ownsRow B 5 1 v L.length (byteCells L)
theorem OwnU.nil (w : World) (B : Nat) : OwnU w B (.slice none 0 0) [] := World.ownsRow_nil _ _ _ _
theorem ownU_text {w : World} {B : Nat} {v : Value} {L : List UInt8} (h : OwnU w B v L) : (convert 22 9 v).run Try.prog w = .ok (.string ⟨L.toArray⟩) w := by
  rcases h.2 with ⟨h1, h2⟩ | ⟨g, cap, cur, h1, _, h3, h4, _⟩
  · obtain rfl : L = [] := List.eq_nil_of_length_eq_zero h2
    rw [h1]
    exact run_convert_nil_bytes (P := Try.prog) w 22 9 5 0 Try.underlying22 Try.underlying5 Try.underlying9
  · subst h1
    refine run_convert_bytes_back (P := Try.prog) w 22 9 5 ⟨g, 0, none⟩ cap L Try.underlying22 Try.underlying5 Try.underlying9 (fun j hj => ?_)
    exact World.ownsRow.cells h (g := g) rfl j _ (by simp [byteCells, hj])
set_option maxHeartbeats 800000 in
theorem refDelete_len {w : World} {u : Value} {L : List Int} (s : ByteArray) (h1 : NumAt .i64 w u L) (hL : L.length ≤ 20000) (hs : s.size ≤ 1073741824) (hne : L.length ≠ s.size) :
    Calls Try.prog 23 #[u, .string s] w fun e w' => e = .returned (.tuple #[.string ⟨#[]⟩, .bool false]) ∧ Below w.heap.size w w' := by
  obtain ⟨a, cap, rfl, hcap, _⟩ := h1
  have d0 : ((L.length : Int) != (s.size : Int)) = true := by simp; omega
  have d1 : (L.length != s.size) = true := by simpa using hne
  go_enter Try.func23, Try.ntmps23
  go_wp2
  go_ret2
  exact ⟨rfl, Below.refl _ _⟩
set_option maxHeartbeats 4000000 in
set_option maxRecDepth 100000 in
theorem refDelete_any {w : World} {u : Value} {L : List Int} (s : ByteArray) (h1 : NumAt .i64 w u L) (hL : L.length ≤ 20000) (hlen : L.length = s.size) :
    Calls Try.prog 23 #[u, .string s] w fun e w' => e = .returned (.tuple #[.string ⟨(del L s.data.toList).toArray⟩, .bool true]) ∧ Below w.heap.size w w' := by
  obtain ⟨i0, hi, hz0, hz1, hz2⟩ := info_parts Try.info_u8
  obtain ⟨a, cap, rfl, hcap, hcells⟩ := h1
  have HC := Hid.mk7 hcells
  have hss : s.size ≤ 20000 := by omega
  have d0 : ((L.length : Int) != (s.size : Int)) = false := by simp; omega
  have d1 : (L.length != s.size) = false := by simp; omega
  have HLL : Hid (L.length = s.size) := hlen
  clear hcells hlen
  go_enter Try.func23, Try.ntmps23
  go_wp2
  clear d0 d1
  go_loopw [6, 7] (fun ov iv wr => ∃ (k : Nat) (D : List UInt8), k ≤ L.length ∧ iv = .int .i64 (k : Nat) ∧ D.length ≤ k ∧ Hid (del L s.data.toList = D ++ del (L.drop k) (s.data.toList.drop k)) ∧ Hid (OwnU wr w.heap.size ov D) ∧ Below w.heap.size w wr) (fun _ iv _ => L.length - (intOf iv).toNat)
  case atStart => exact ⟨0, [], Nat.zero_le _, rfl, Nat.le_refl _, rfl, OwnU.nil _ _, Below.refl _ _⟩
  case round =>
    obtain ⟨k, D, hk, rfl, hDk, HD, HO, hb⟩ := hrel
    by_cases hlt : k < L.length
    · obtain ⟨x, hx⟩ : ∃ r, L[k]? = some r := ⟨L[k], List.getElem?_eq_getElem hlt⟩
      obtain ⟨g, off, rfl, q0⟩ := HC.out k _ hx
      have c0 := cell_later7 hb (Nat.le_refl _) q0
      have hks : k < s.size := by rw [← HLL.out]; exact hlt
      have hdx : L.drop k = x :: L.drop (k + 1) := by
        rw [List.drop_eq_getElem_cons hlt]; congr 1; rw [List.getElem?_eq_getElem hlt] at hx; exact Option.some.inj hx
      have hds : s.data.toList.drop k = s[k] :: s.data.toList.drop (k + 1) := List.drop_eq_getElem_cons (by simpa using hks)
      rw [hdx, hds] at HD
      have hsz := hb.size
      clear hx q0 hdx hds
      by_cases hx0 : x = 0
      · have dx : (x == 0) = true := by simpa using hx0
        have HD2 : Hid (del L s.data.toList = (D ++ [s[k]]) ++ del (L.drop (k + 1)) (s.data.toList.drop (k + 1))) := by
          show _ = _
          rw [HD.out, hx0, List.append_assoc]; rfl
        have HO1 : Hid (wr.ownsRow w.heap.size 5 1 u6 D.length (byteCells D)) := HO.out
        clear HD hx0 HO
        go_wp2_with (at_builtin; refine wpList_append_own _ rfl _ _ 22 rfl w.heap.size 5 i0 (.int .u8 0) 1 1 Try.underlying22 hi hz0 hz1 hz2 rfl (by decide) _ _ _ rfl (World.ownsRow.alloc HO1.out _) ⟨_, 0, none⟩ 1 1 [.int .u8 (s[k].toNat : Int)] rfl rfl (cell_one8 _ _ _) (fun u hu => by simp at hu; subst hu; rfl) (by unfold maxLen; omega) (by omega) (by simp; omega) ?_)
        intro v' w3 hown' hgrow _
        have hb3 : Below w.heap.size w w3 := (hb.alloc hb.size _).grown hgrow (by simp; omega) (fun t ht => (HO1.out.lt _ ht).1)
        have HO3 : Hid (OwnU w3 w.heap.size v' (D ++ [s[k]])) := by
          show World.ownsRow _ _ _ _ _ _ _
          rw [List.length_append, byteCells_append]
          exact hown'
        clear hown' hgrow HO1 c0
        go_wp2
        go_roundw
        case rel => exact ⟨k + 1, _, by omega, by go_num, by simp; omega, HD2, HO3, hb3⟩
        case measure => simp [intOf]; omega
      · have dx : (x == 0) = false := by simpa using hx0
        have HD2 : Hid (del L s.data.toList = D ++ del (L.drop (k + 1)) (s.data.toList.drop (k + 1))) := by
          show _ = _
          rw [HD.out]
          congr 1
          show (if x = 0 then _ else _) = _
          rw [if_neg hx0]
        clear HD hx0
        go_wp2
        go_roundw
        case rel => exact ⟨k + 1, _, by omega, by go_num, by omega, HD2, HO, hb⟩
        case measure => simp [intOf]; omega
    · obtain rfl : k = L.length := by omega
      have hD2 : del L s.data.toList = D := by
        have := HD.out
        rw [List.drop_length, show del [] (s.data.toList.drop L.length) = [] from rfl, List.append_nil] at this
        exact this
      have HD2 := Hid.mk7 hD2
      have hcv := ownU_text HO.out
      clear HO HD hD2
      go_wp2
      go_ret2
      exact ⟨by rw [HD2.out]; rfl, hb⟩
set_option maxHeartbeats 800000 in
theorem told8_err {w : World} (v : Value) (f : Int) (hf : f = 70 ∨ f = 80) : Calls Try.prog 15 #[.pointer none, .int .i64 f, v, .int .i64 f] w fun e w' => e = .returned (.bool true) ∧ Below w.heap.size w w' := by
  rcases hf with rfl | rfl
  · go_enter Try.func15, Try.ntmps15
    go_wp2
    go_ret
    exact ⟨rfl, Below.refl _ _⟩
  · go_enter Try.func15, Try.ntmps15
    go_wp2
    go_ret
    exact ⟨rfl, Below.refl _ _⟩
set_option maxHeartbeats 800000 in
theorem told8_ok {w : World} {s v : Value} {L : List Int} (hs : Sub w s L) (hv : NumAt .i64 w v L) (hl : L.length ≤ 20000) : Calls Try.prog 15 #[s, .int .i64 0, v, .int .i64 0] w fun e w' => e = .returned (.bool true) ∧ Below w.heap.size w w' := by
  have HI := Hid.mk7 (is_true hs hv hl)
  clear hs hv
  go_enter Try.func15, Try.ntmps15
  go_wp2_with fail
  refine HI.out.mono ?_
  rintro e w1 ⟨rfl, b1⟩
  go_wp2
  go_ret
  exact ⟨rfl, b1⟩
end Go.Proofs.Ytkiiknaoljppdaa
