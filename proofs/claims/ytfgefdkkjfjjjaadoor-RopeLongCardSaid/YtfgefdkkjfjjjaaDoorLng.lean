/- What is too long, and how many chunks there are. -/
import Derived.Test.YtfgefdkkjfjjjaaDoorKnown4
import Derived.Test.YtfgefdkkjfjjjaaDoorRpD
import Derived.Laws.IdiomStrings
import Derived.OwnWalk
namespace Go.Proofs.YtfgefdkkjfjjjaaDoor
open Go.RowKit Go.Sort
set_option linter.unusedSimpArgs false
set_option linter.unusedVariables false

theorem asc_append {a b : List UInt8} (ha : Asc a) (hb : Asc b) : Asc (a ++ b) := by
  intro x hx
  rcases List.mem_append.1 hx with h | h
  · exact ha x h
  · exact hb x h
theorem asc_take {a : List UInt8} (ha : Asc a) (n : Nat) : Asc (a.take n) := fun x hx => ha x (List.mem_of_mem_take hx)
theorem asc_drop {a : List UInt8} (ha : Asc a) (n : Nat) : Asc (a.drop n) := fun x hx => ha x (List.mem_of_mem_drop hx)
theorem asc_rep (n : Nat) {b : UInt8} (hb : b.toNat < 128) : Asc (List.replicate n b) := by
  intro x hx
  rw [List.eq_of_mem_replicate hx]
  exact hb
theorem asc_cln {l : List UInt8} (h : Asc l) : cln l = l := cln_of_valid (asc_vld h)

set_option maxHeartbeats 2000000 in
set_option maxRecDepth 100000 in
/-- Concat, of what would be too long. -/
theorem concat_long (E : Env) {r o : Value} {T U : List UInt8} {w : World} (h : RpA E w r T) (h' : RpA E w o U) (hz : T.length ≤ 100000) (hz' : U.length ≤ 100000) (hl : 20000 < T.length + U.length) :
    Calls Tryd.prog 13 #[r, o] w fun e w' => e = .returned (.tuple #[.pointer none, .int .i64 13]) ∧ Below w.heap.size w w' := by
  have H1 := Hid.mk4 (rpa_len E h hz)
  have H2 : Hid (∀ W, Below w.heap.size w W → Calls Tryd.prog 20 #[o] W fun e w' => e = .returned (.int .i64 (U.length : Nat)) ∧ Below W.heap.size W w') := fun W hW => rpa_len E (h'.later hW) hz'
  have hcmp : (20000 : Int) < (T.length : Int) + (U.length : Int) := by omega
  clear h h'
  go_enter Tryd.func13, Tryd.ntmps13
  go_wp2_with fail
  refine H1.out.mono ?_
  rintro e w1 ⟨rfl, b1⟩
  clear H1
  go_wp2_with fail
  refine (H2.out _ b1).mono ?_
  rintro e w2 ⟨rfl, b2⟩
  have g2 := b1.trans (b2.mono b1.size)
  clear H2 b1 b2
  go_wp2
  go_ret2
  exact ⟨rfl, g2⟩
theorem rpa_chunks (E : Env) {r : Value} {T : List UInt8} {w : World} (h : RpA E w r T) (hz : T.length ≤ 100000) :
    Calls Tryd.prog 21 #[r] w fun e w' => ∃ b m cap, e = .returned (.slice (some ⟨b, 0, none⟩) m cap) ∧ m ≤ T.length / 16 + 2 ∧ Below w.heap.size w w' := by
  obtain ⟨g, ls, hr, hR, hc⟩ := h
  subst hc
  rw [cat_length] at hz ⊢
  have hI : Inv ls := by obtain ⟨u, _, _, h3⟩ := hR; exact h3
  refine (chunks_any E r ls w hR hz).mono ?_
  rintro e w' ⟨b, cap, he, _, _, _, hb⟩
  exact ⟨b, ls.length, cap, he, hI.few, hb⟩
/-- Replace, of an ASCII text by one. -/
theorem rep_asc (tb : Nat × Nat) (htab : ∀ W, (weakE tb).Tb W → Tab W tb) {r : Value} {T : List UInt8} {w : World} (f t : Nat) (s : ByteArray) (h : RpA (weakE tb) w r T) (aT : Asc T) (aS : Asc s.data.toList) (hz : T.length ≤ 20000) (hft : f ≤ t) (ht : t ≤ T.length)
    (hs : s.size ≤ 20000) (hl : T.length - (t - f) + s.size ≤ 20000) (hT : (weakE tb).Tb w) :
    Calls Tryd.prog 15 #[r, .int .i64 (f : Nat), .int .i64 (t : Nat), .string s] w fun e w' => ∃ g' T', e = .returned (.tuple #[.pointer (some ⟨g', 0, none⟩), .int .i64 0]) ∧ RpA (weakE tb) w' (.pointer (some ⟨g', 0, none⟩)) T' ∧ Asc T' ∧ T'.length = T.length - (t - f) + s.size ∧ Below w.heap.size w w' := by
  have aN : Asc (T.take f ++ (s.data.toList ++ T.drop t)) := asc_append (asc_take aT f) (asc_append aS (asc_drop aT t))
  have hlen : (T.take f ++ (s.data.toList ++ T.drop t)).length = T.length - (t - f) + s.size := by
    rw [List.length_append, List.length_append, List.length_take, List.length_drop, bytes_length]
    omega
  have h1 := mrep_ok (weakE tb) tb htab r T f t s w h (by omega) hft ht (asc_vld (asc_take aT f)) (asc_vld (asc_take aT t)) hs (by rw [asc_cln aS, bytes_length]; exact hl) (by rw [asc_cln aS]; exact asc_Dt tb aN (by rw [hlen]; omega)) hT
  rw [asc_cln aS] at h1
  refine h1.mono ?_
  rintro e w' ⟨r', he, hr, hb⟩
  obtain ⟨g, _, hg, _⟩ := id hr
  subst hg
  exact ⟨g, _, he, hr, aN, hlen, hb⟩
theorem rep_asc_long (tb : Nat × Nat) (htab : ∀ W, (weakE tb).Tb W → Tab W tb) {r : Value} {T : List UInt8} {w : World} (f t : Nat) (s : ByteArray) (h : RpA (weakE tb) w r T) (aT : Asc T) (aS : Asc s.data.toList) (hz : T.length ≤ 20000) (hft : f ≤ t) (ht : t ≤ T.length)
    (hs : s.size ≤ 20000) (hl : 20000 < T.length - (t - f) + s.size) (hT : (weakE tb).Tb w) :
    Calls Tryd.prog 15 #[r, .int .i64 (f : Nat), .int .i64 (t : Nat), .string s] w fun e w' => e = .returned (.tuple #[.pointer none, .int .i64 13]) ∧ Below w.heap.size w w' :=
  mrep_long (weakE tb) tb htab r T f t s w h (by omega) hft ht (asc_vld (asc_take aT f)) (asc_vld (asc_take aT t)) hs (by rw [asc_cln aS, bytes_length]; exact hl) hT
/-- 'string(make([]byte, n))': n zeros. -/
theorem zeros_string {w : World} {base g N : Nat} (ho : w.ownsRow base 5 1 (.slice (some ⟨g, 0, none⟩) N N) N (madeCells #[.int .u8 0] N).toList) :
    ∃ S : ByteArray, S.data.toList = List.replicate N 0 ∧ S.size = N ∧ Sem.run Tryd.prog (convert 43 9 (.slice (some ⟨g, 0, none⟩) N N)) w = .ok (.string S) w := by
  rw [toList_madeCells_one] at ho
  have h := run_convert_bytes_back (P := Tryd.prog) w 43 9 5 ⟨g, 0, none⟩ N (List.replicate N 0) Tryd.underlying43 Tryd.underlying5 Tryd.underlying9 (fun j hj => ho.cells rfl j _ (by simp at hj; simp [List.getElem?_replicate, hj]))
  rw [List.length_replicate] at h
  exact ⟨⟨(List.replicate N 0).toArray⟩, by simp, by simp [ByteArray.size], h⟩
theorem Tryd.info_byte : (Tryd.prog.info? 5).map (fun i => (i.zero, i.size, i.bytes)) = some (some (.int .u8 0), 1, 1) := by kernel_rfl
end Go.Proofs.YtfgefdkkjfjjjaaDoor
