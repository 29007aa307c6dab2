/- isBase, isCopy, isInsert, copied, inserted. Is. Size, Adds, Drops. -/
import Derived.Test.YtafhogfbjklboaaDoorDelMem
import Derived.Test.YtafhogfbjklboaaDoorDelBuild
namespace Go.Proofs.YtafhogfbjklboaaDoor
open Go.RowKit Go.Sort
set_option linter.unusedSimpArgs false
set_option linter.unusedVariables false

theorem below_newE {a w : World} (h : Below a.heap.size a w) (o : Obj) : Below a.heap.size a (w.alloc o) := h.alloc h.size o
theorem ret_boolE {a b : Bool} (h : a = b) : Ending.returned (.bool a) = .returned (.bool b) := by rw [h]
theorem size_of_ne {s : ByteArray} (h : s.size ≠ 0) : s.toList.isEmpty = false ∧ ¬ s.toList = [] := by
  have h1 : ¬ s.toList = [] := fun e => h (by rw [← bytes_length, ← ByteArray.toList_eq, e]; rfl)
  exact ⟨by simpa using h1, h1⟩
theorem eq_of_size {s : ByteArray} (h : s.size = 0) : s = ⟨#[]⟩ := by
  obtain ⟨d⟩ := s
  congr 1
  exact Array.eq_empty_of_size_eq_zero h
set_option maxHeartbeats 1000000 in
set_option maxRecDepth 100000 in
theorem isBase_any (n : Int) (w : World) :
    Calls Tryd.prog 47 #[.int .i64 n] w fun e w' => e = .returned (.bool (decide (0 ≤ n ∧ n ≤ 20000))) ∧ w' = w := by
  by_cases h1 : 0 ≤ n
  · have e1 : decide (0 ≤ n) = true := decide_eq_true h1
    go_enter Tryd.func47, Tryd.ntmps47
    go_wp2
    go_ret
    exact ⟨ret_boolE (by simp [h1]), rfl⟩
  · have e1 : decide (0 ≤ n) = false := decide_eq_false h1
    go_enter Tryd.func47, Tryd.ntmps47
    go_wp2
    go_ret
    exact ⟨ret_boolE (by simp [h1]), rfl⟩
set_option maxHeartbeats 1000000 in
set_option maxRecDepth 100000 in
theorem isCopy_any (f t : Int) (s : ByteArray) (w : World) :
    Calls Tryd.prog 48 #[.agg #[.int .i64 f, .int .i64 t, .string s]] w fun e w' => e = .returned (.bool (decide (f < t) && decide (s.size = 0))) ∧ Below w.heap.size w w' := by
  have b1 := below_newE (Below.refl w.heap.size w) (.cells #[.int .i64 f, .int .i64 t, .string s] 55)
  by_cases h1 : f < t
  · have e1 : decide (f < t) = true := decide_eq_true h1
    by_cases h2 : s.size = 0
    · have e2 : decide (s.size = 0) = true := decide_eq_true h2
      rw [e1, e2]
      obtain rfl := eq_of_size h2
      clear h2 e2
      go_enter Tryd.func48, Tryd.ntmps48
      go_wp2
      go_ret
      exact ⟨rfl, b1⟩
    · obtain ⟨n1, n2⟩ := size_of_ne h2
      have e2 : decide (s.size = 0) = false := decide_eq_false h2
      rw [e1, e2]
      clear h2 e2
      go_enter Tryd.func48, Tryd.ntmps48
      go_wp2
      go_ret
      exact ⟨rfl, b1⟩
  · have e1 : decide (f < t) = false := decide_eq_false h1
    go_enter Tryd.func48, Tryd.ntmps48
    go_wp2
    go_ret
    exact ⟨ret_boolE (by simp [h1]), b1⟩
set_option maxHeartbeats 1000000 in
set_option maxRecDepth 100000 in
theorem isInsert_any (f t : Int) (s : ByteArray) (w : World) (tb : Nat × Nat) (hs : s.size ≤ maxLen) (hT : Tab w tb) :
    Calls Tryd.prog 49 #[.agg #[.int .i64 f, .int .i64 t, .string s]] w fun e w' => e = .returned (.bool (decide (s.size ≠ 0 ∧ f = 0 ∧ t = 0) && vld s.data.toList)) ∧ Below w.heap.size w w' := by
  have b1 := below_newE (Below.refl w.heap.size w) (.cells #[.int .i64 f, .int .i64 t, .string s] 55)
  by_cases h2 : s.size = 0
  · have e2 : decide (s.size ≠ 0 ∧ f = 0 ∧ t = 0) = false := decide_eq_false fun h => h.1 h2
    rw [e2, Bool.false_and]
    obtain rfl := eq_of_size h2
    clear h2 e2 hs
    go_enter Tryd.func49, Tryd.ntmps49
    go_wp2
    go_ret
    exact ⟨rfl, b1⟩
  · obtain ⟨n1, n2⟩ := size_of_ne h2
    have HV := Hid.mk7 (valid_any s (w.alloc (.cells #[.int .i64 f, .int .i64 t, .string s] 55)) tb hs (hT.later b1))
    by_cases h3 : f = 0
    · subst h3
      by_cases h4 : t = 0
      · subst h4
        rw [show decide (s.size ≠ 0 ∧ (0 : Int) = 0 ∧ (0 : Int) = 0) = true from decide_eq_true ⟨h2, rfl, rfl⟩, Bool.true_and]
        clear h2
        go_enter Tryd.func49, Tryd.ntmps49
        go_wp2_with fail
        refine HV.out.mono ?_
        rintro e w1 ⟨rfl, b2⟩
        go_wp2
        go_ret
        exact ⟨rfl, b1.trans (b2.mono b1.size)⟩
      · rw [show decide (s.size ≠ 0 ∧ (0 : Int) = 0 ∧ t = 0) = false from decide_eq_false fun h => h4 h.2.2, Bool.false_and]
        have e4 : (t == 0) = false := by simpa using h4
        have e5 : decide (t = 0) = false := by simpa using h4
        go_enter Tryd.func49, Tryd.ntmps49
        go_wp2
        go_ret
        exact ⟨rfl, b1⟩
    · rw [show decide (s.size ≠ 0 ∧ f = 0 ∧ t = 0) = false from decide_eq_false fun h => h3 h.2.1, Bool.false_and]
      have e4 : (f == 0) = false := by simpa using h3
      have e5 : decide (f = 0) = false := by simpa using h3
      go_enter Tryd.func49, Tryd.ntmps49
      go_wp2
      go_ret
      exact ⟨rfl, b1⟩
set_option maxHeartbeats 1000000 in
set_option maxRecDepth 100000 in
theorem copied_any {w : World} {v : Value} {es : List El} (h : ElAt w v es) (hbd : Bd es) (hl : es.length ≤ 20000) :
    Calls Tryd.prog 50 #[v] w fun e w' => e = .returned (.int .i64 (cpS es)) ∧ Below w.heap.size w w' := by
  obtain ⟨a, cap, rfl, hcap, _, hcells⟩ := h
  have HC := Hid.mk7 hcells
  have HB := Hid.mk7 hbd
  clear hcells hbd
  go_enter Tryd.func50, Tryd.ntmps50
  go_wp2
  go_loopw [3, 8] (fun nv iv wr => ∃ (k : Nat) (n : Int), k ≤ es.length ∧ iv = .int .i64 (k : Nat) ∧ nv = .int .i64 n ∧ Hid (n = cpS (es.take k)) ∧ 0 ≤ n ∧ n ≤ 20000 * (k : Int) ∧ Below w.heap.size w wr) (fun _ iv _ => es.length - (intOf iv).toNat)
  case atStart => exact ⟨0, 0, Nat.zero_le _, rfl, rfl, by show _ = _; simp [cpS], by omega, by omega, Below.refl _ _⟩
  case round =>
    obtain ⟨k, n, hk, rfl, rfl, HN, hn0, hn1, hb⟩ := hrel
    by_cases hlt : k < es.length
    · obtain ⟨⟨f, t, T⟩, hr⟩ : ∃ r, es[k]? = some r := ⟨es[k], List.getElem?_eq_getElem hlt⟩
      obtain ⟨g, off, rfl, q0, q1, q2⟩ := HC.out k _ hr
      have c0 := cell_later7 hb (Nat.le_refl _) q0
      have c1 := cell_later7 hb (Nat.le_refl _) q1
      have c2 := cell_later7 hb (Nat.le_refl _) q2
      simp only at c0 c1 c2
      have hd := HB.out _ (List.mem_of_getElem? hr)
      simp only at hd
      have HN2 : Hid (n + (t - f) = cpS (es.take (k + 1))) := by show _ = _; rw [HN.out, take_snoc7 hr, cpS_append]; simp [cpS]
      have hb2 := below_newE hb (.cells #[.int .i64 f, .int .i64 t, .string (cacc T)] 55)
      clear q0 q1 q2 hr
      generalize cacc T = s at *
      go_wp2
      go_roundw
      case rel => exact ⟨k + 1, n + (t - f), by omega, by go_num, by go_num, HN2, by omega, by omega, hb2⟩
      case measure => simp [intOf]; omega
    · obtain rfl : k = es.length := by omega
      have HE : Hid (cpS es = n) := by show _ = _; rw [HN.out, List.take_length]
      go_wp2
      go_ret
      exact ⟨ret_int HE.out.symm, hb⟩
/-- Texts that fit. -/
def Sm (es : List El) (m : Nat) : Prop := ∀ e ∈ es, e.2.2.length ≤ m
theorem inS_bd : ∀ (es : List El) (m : Nat), Sm es m → inS es ≤ m * es.length
  | [], _, _ => by simp [inS]
  | e :: es, m, h => by
    have ih := inS_bd es m (fun x hx => h x (by simp [hx]))
    have := h e (by simp)
    simp only [inS, List.map_cons, List.sum_cons, List.length_cons] at *
    rw [Nat.mul_add, Nat.mul_one]
    omega
theorem Sm.take {es : List El} {m : Nat} (h : Sm es m) (k : Nat) : Sm (es.take k) m := fun e he => h e (List.mem_of_mem_take he)
set_option maxHeartbeats 1000000 in
set_option maxRecDepth 100000 in
theorem inserted_any {w : World} {v : Value} {es : List El} (h : ElAt w v es) (hsm : Sm es 281474976710656) (hl : es.length ≤ 20000) :
    Calls Tryd.prog 51 #[v] w fun e w' => e = .returned (.int .i64 (inS es : Nat)) ∧ Below w.heap.size w w' := by
  obtain ⟨a, cap, rfl, hcap, _, hcells⟩ := h
  have HC := Hid.mk7 hcells
  have HB := Hid.mk7 hsm
  clear hcells hsm
  go_enter Tryd.func51, Tryd.ntmps51
  go_wp2
  go_loopw [3, 8] (fun nv iv wr => ∃ (k n : Nat), k ≤ es.length ∧ iv = .int .i64 (k : Nat) ∧ nv = .int .i64 (n : Nat) ∧ Hid (n = inS (es.take k)) ∧ n ≤ 281474976710656 * k ∧ Below w.heap.size w wr) (fun _ iv _ => es.length - (intOf iv).toNat)
  case atStart => exact ⟨0, 0, Nat.zero_le _, rfl, rfl, by show _ = _; simp [inS], by omega, Below.refl _ _⟩
  case round =>
    obtain ⟨k, n, hk, rfl, rfl, HN, hn1, hb⟩ := hrel
    by_cases hlt : k < es.length
    · obtain ⟨⟨f, t, T⟩, hr⟩ : ∃ r, es[k]? = some r := ⟨es[k], List.getElem?_eq_getElem hlt⟩
      obtain ⟨g, off, rfl, q0, q1, q2⟩ := HC.out k _ hr
      have c0 := cell_later7 hb (Nat.le_refl _) q0
      have c1 := cell_later7 hb (Nat.le_refl _) q1
      have c2 := cell_later7 hb (Nat.le_refl _) q2
      simp only at c0 c1 c2
      have hd := HB.out _ (List.mem_of_getElem? hr)
      simp only at hd
      have HN2 : Hid (n + T.length = inS (es.take (k + 1))) := by show _ = _; rw [HN.out, take_snoc7 hr, inS_append]; simp [inS]
      have hb2 := below_newE hb (.cells #[.int .i64 f, .int .i64 t, .string (cacc T)] 55)
      have hsz : (cacc T).size = T.length := cacc_size T
      clear q0 q1 q2 hr
      generalize cacc T = s at *
      generalize T.length = m at *
      subst hsz
      go_wp2
      go_roundw
      case rel => exact ⟨k + 1, n + s.size, by omega, by go_num, by go_num, HN2, by omega, hb2⟩
      case measure => simp [intOf]; omega
    · obtain rfl : k = es.length := by omega
      have HE : Hid ((inS es : Int) = n) := by show _ = _; rw [HN.out, List.take_length]
      go_wp2
      go_ret
      exact ⟨ret_int HE.out.symm, hb⟩
end Go.Proofs.YtafhogfbjklboaaDoor
namespace Go.Proofs.YtafhogfbjklboaaDoor
open Go.RowKit Go.Sort
set_option linter.unusedSimpArgs false
set_option linter.unusedVariables false

theorem drop_consE {α : Type} {L : List α} {k : Nat} {e : α} (h : L[k]? = some e) : L.drop k = e :: L.drop (k + 1) := by
  obtain ⟨hk, rfl⟩ := List.getElem?_eq_some_iff.1 h
  exact List.drop_eq_getElem_cons hk
theorem st_copy {base en : Int} {kd : Nat} {es : List El} {k : Nat} {f t : Int} (hr : es[k]? = some (f, t, [])) :
    stR base en kd (es.drop k) = (decide (en ≤ f ∧ (kd = 2 → en < f) ∧ f < t ∧ t ≤ base) && stR base t 2 (es.drop (k + 1))) := by
  rw [drop_consE hr, stR, stE, if_pos rfl, if_pos rfl]
theorem st_ins {base en : Int} {kd : Nat} {es : List El} {k : Nat} {f t : Int} {T : List UInt8} (hr : es[k]? = some (f, t, T)) (hT : T ≠ []) :
    stR base en kd (es.drop k) = ((decide (f = 0 ∧ t = 0 ∧ kd ≠ 1) && vld T) && stR base en 1 (es.drop (k + 1))) := by
  rw [drop_consE hr, stR, stE, if_neg hT, if_neg hT]
/-- What stood last: 0 nothing, 1 a text, 2 what is kept. -/
def kdo (es : List El) (k : Nat) : Nat := match k with | 0 => 0 | j + 1 => if ((es[j]?).getD (0, 0, [])).2.2 = [] then 2 else 1
theorem kdo_text {es : List El} {k : Nat} {f t : Int} {T : List UInt8} (hr : es[k]? = some (f, t, T)) (hT : T ≠ []) : kdo es (k + 1) = 1 := by
  show (if _ then _ else _) = _; rw [hr]; exact if_neg hT
theorem kdo_copy {es : List El} {k : Nat} {f t : Int} (hr : es[k]? = some (f, t, [])) : kdo es (k + 1) = 2 := by
  show (if _ then _ else _) = _; rw [hr]; exact if_pos rfl
theorem cacc_ne {T : List UInt8} (h : T ≠ []) : (cacc T).size ≠ 0 := fun e => h (List.eq_nil_of_length_eq_zero e)
set_option maxHeartbeats 4000000 in
set_option maxRecDepth 100000 in
theorem is_any {w : World} {v : Value} {es : List El} (base : Int) (h : ElAt w v es) (hsm : Sm es 281474976710656) (tb : Nat × Nat) (hT : Tab w tb) :
    Calls Tryd.prog 32 #[.agg #[.int .i64 base, v]] w fun e w' => e = .returned (.bool (isB base es)) ∧ Below w.heap.size w w' := by
  have HV := Hid.mk7 h
  obtain ⟨a, cap, rfl, hcap, _, hcells⟩ := h
  have HC := Hid.mk7 hcells
  have HSM := Hid.mk7 hsm
  have HT := Hid.mk7 hT
  have RD0 := Rd.new w (.int .i64 base) (.slice a es.length cap)
  have B0 := below_newE (Below.refl w.heap.size w) (.cells #[.int .i64 base, .slice a es.length cap] 25)
  have HF := Hid.mk7 (isB_st base es)
  have HIB := Hid.mk7 (isBase_any base)
  clear hcells hsm hT
  by_cases hbase : 0 ≤ base ∧ base ≤ 20000
  case neg =>
    have HF2 : Hid (isB base es = false) := by
      show _ = _
      rw [HF.out, decide_eq_false (fun h => hbase ⟨h.1, h.2.1⟩), Bool.false_and]
    have HIB2 : Hid (∀ W, Calls Tryd.prog 47 #[.int .i64 base] W fun e w' => e = .returned (.bool false) ∧ w' = W) := fun W => by
      have := HIB.out W
      rw [decide_eq_false hbase] at this
      exact this
    clear HF HIB hbase
    have r0 := RD0.c0
    have r1 := RD0.c1
    clear RD0
    go_enter Tryd.func32, Tryd.ntmps32
    go_wp2_with fail
    refine (HIB2.out _).mono ?_
    rintro e w1 ⟨rfl, rfl⟩
    go_wp2
    go_ret
    exact ⟨ret_boolE HF2.out.symm, B0⟩
  have HIB2 : Hid (∀ W, Calls Tryd.prog 47 #[.int .i64 base] W fun e w' => e = .returned (.bool true) ∧ w' = W) := fun W => by
    have := HIB.out W
    rw [decide_eq_true hbase] at this
    exact this
  clear HIB
  by_cases hlen : es.length ≤ 60
  case neg =>
    have HF2 : Hid (isB base es = false) := by
      show _ = _
      rw [HF.out, decide_eq_false (fun h => hlen h.2.2), Bool.false_and]
    have d1 : decide ((60 : Int) < (es.length : Int)) = true := decide_eq_true (by omega)
    clear HF hbase
    have r0 := RD0.c0
    have r1 := RD0.c1
    clear RD0
    go_enter Tryd.func32, Tryd.ntmps32
    go_wp2_with fail
    refine (HIB2.out _).mono ?_
    rintro e w1 ⟨rfl, rfl⟩
    go_wp2
    go_ret
    exact ⟨ret_boolE HF2.out.symm, B0⟩
  have HF2 : Hid (isB base es = (stR base 0 0 es && decide (szE es ≤ 20000))) := by
    show _ = _
    rw [HF.out, decide_eq_true ⟨hbase.1, hbase.2, hlen⟩, Bool.true_and]
  have d1 : decide ((60 : Int) < (es.length : Int)) = false := decide_eq_false (by omega)
  clear HF
  have r0 := RD0.c0
  have r1 := RD0.c1
  have RDH := Hid.mk7 RD0
  have BH := Hid.mk7 B0
  clear RD0 B0
  go_enter Tryd.func32, Tryd.ntmps32
  go_wp2_with fail
  refine (HIB2.out _).mono ?_
  rintro e w1 ⟨rfl, rfl⟩
  clear HIB2
  have HV0 := Hid.mk7 (HV.out.later BH.out)
  have HT0 := Hid.mk7 (HT.out.later BH.out)
  clear HV HT HC r0 r1
  generalize w.alloc (.cells #[.int .i64 base, .slice a es.length cap] 25) = W0 at *
  obtain ⟨_, _, hve, _, _, hcells⟩ := id HV0.out
  cases hve
  have HC := Hid.mk7 hcells
  have r1 := RDH.out.c1
  clear hcells
  go_wp2
  go_loopw [3, 4, 21] (fun ev lv iv wr => ∃ (k : Nat) (en le : Int), k ≤ es.length ∧ iv = .int .i64 (k : Nat) ∧ ev = .int .i64 en ∧ lv = .int .i64 le ∧ Hid (le = if kdo es k = 2 then en + 1 else en) ∧ 0 ≤ en ∧ en ≤ 20000 ∧ Hid (stR base 0 0 es = stR base en (kdo es k) (es.drop k)) ∧ Below W0.heap.size W0 wr) (fun _ _ iv _ => es.length - (intOf iv).toNat)
  case atStart => exact ⟨0, 0, 0, Nat.zero_le _, rfl, rfl, rfl, rfl, by omega, by omega, rfl, Below.refl _ _⟩
  case round =>
    obtain ⟨k, en, le, hk, rfl, rfl, rfl, HLE, he0, he1, HS, hb⟩ := hrel
    have RDk := Hid.mk7 (RDH.out.later hb)
    have gz := RDk.out.lt
    have rk0 := RDk.out.c0
    have rk1 := RDk.out.c1
    clear r1
    by_cases hlt : k < es.length
    · obtain ⟨⟨f, t, T⟩, hr⟩ : ∃ r, es[k]? = some r := ⟨es[k], List.getElem?_eq_getElem hlt⟩
      obtain ⟨g, off, rfl, q0, q1, q2⟩ := HC.out k _ hr
      have c0 := cell_later7 hb (Nat.le_refl _) q0
      have c1 := cell_later7 hb (Nat.le_refl _) q1
      have c2 := cell_later7 hb (Nat.le_refl _) q2
      simp only at c0 c1 c2
      have gl : g < wr.heap.size := World.block_lt_of_cell? wr ⟨g, _, none⟩ c0
      have hTS : T.length ≤ 281474976710656 := HSM.out _ (List.mem_of_getElem? hr)
      have HR := Hid.mk7 hr
      clear q0 q1 q2
      have HCP := Hid.mk7 (isCopy_any f t (cacc T))
      have HIN := Hid.mk7 (fun W => isInsert_any f t (cacc T) W tb (by rw [cacc_size]; unfold maxLen; omega))
      rw [cacc_size] at HCP HIN
      have HTC : Hid ((cacc T).data.toList = T) := rfl
      have hb1 := below_newE hb (.cells #[.int .i64 f, .int .i64 t, .string (cacc T)] 55)
      have RE1 := Re.new wr (.int .i64 f) (.int .i64 t) (.string (cacc T))
      have RD1 := RDk.out.alloc (.cells #[.int .i64 f, .int .i64 t, .string (cacc T)] 55)
      generalize hs : cacc T = s at *
      have HSE := Hid.mk7 hs
      have HB1 := Hid.mk7 hb1
      have HRE1 := Hid.mk7 RE1
      have HRD1 := Hid.mk7 RD1
      have HBB := Hid.mk7 hb
      clear hs RE1 RD1 hb1 hr hb
      have HP : (k = 0 ∧ kdo es k = 0) ∨ (∃ (j : Nat) (f' t' : Int) (s' : ByteArray), k = j + 1 ∧ wr.cell? ⟨g, off + j * 3 + 2, none⟩ = some (.string s') ∧ s'.size = 0 ∧ kdo es k = 2) ∨ (∃ (j : Nat) (f' t' : Int) (s' : ByteArray), k = j + 1 ∧ wr.cell? ⟨g, off + j * 3 + 2, none⟩ = some (.string s') ∧ s'.size ≠ 0 ∧ kdo es k = 1) := by
        cases k with
        | zero => exact Or.inl ⟨rfl, rfl⟩
        | succ j =>
          obtain ⟨⟨f', t', T'⟩, hr'⟩ : ∃ r, es[j]? = some r := ⟨es[j], List.getElem?_eq_getElem (by omega)⟩
          obtain ⟨g', off', he', _, _, p2⟩ := HC.out j _ hr'
          cases he'
          have p2 := cell_later7 HBB.out (Nat.le_refl _) p2
          by_cases hT' : T' = []
          · subst hT'; exact Or.inr (Or.inl ⟨j, f', t', cacc [], rfl, p2, rfl, kdo_copy hr'⟩)
          · exact Or.inr (Or.inr ⟨j, f', t', cacc T', rfl, p2, cacc_ne hT', kdo_text hr' hT'⟩)
      clear HBB
      rcases HP with ⟨hk0, hkd⟩ | ⟨j, f', t', s', rfl, p2, hs', hkd⟩ | ⟨j, f', t', s', rfl, p2, hs', hkd⟩
      · rw [hkd] at HLE HS
        obtain rfl : en = le := HLE.out.symm
        clear HLE
        have dk : decide (0 < (k : Int)) = false := decide_eq_false (by omega)
        have hk0' : ¬ 0 < k := by omega
        clear hk0
        by_cases hT0 : T = []
        · have HTN : Hid (T = []) := hT0
          have HGO : Hid (stR base en 0 (es.drop k) = (decide (en ≤ f ∧ f < t ∧ t ≤ base) && stR base t 2 (es.drop (k + 1)))) := by
            show _ = _
            have hr := HR.out
            rw [hT0] at hr
            rw [st_copy hr]
            congr 1
            exact decide_eq_decide.2 (by constructor <;> intro h <;> (refine ⟨?_, ?_⟩ <;> first | omega | (refine ⟨?_, ?_⟩ <;> omega) | (refine ⟨?_, ?_, ?_⟩ <;> omega)))
          have HKD : Hid (kdo es (k + 1) = 2) := by
            have hr := HR.out
            rw [hT0] at hr
            exact kdo_copy hr
          have hi0 : decide (T.length ≠ 0 ∧ f = 0 ∧ t = 0) = false := decide_eq_false fun h => h.1 (by rw [hT0]; rfl)
          have hi1 : decide (T.length = 0) = true := decide_eq_true (by rw [hT0]; rfl)
          rw [hi1, Bool.and_true] at HCP
          rw [hi0, Bool.false_and] at HIN
          clear hi0 hi1 hT0
          by_cases hft : f < t
          · have hfd : decide (f < t) = true := decide_eq_true hft
            rw [hfd] at HCP
            clear hfd
            by_cases hlf : en ≤ f
            · have dlf : decide (en ≤ f) = true := decide_eq_true hlf
              by_cases htb : t ≤ base
              · have HS2 : Hid (stR base 0 0 es = stR base t 2 (es.drop (k + 1))) := by
                  show _ = _
                  rw [HS.out, HGO.out, decide_eq_true ⟨hlf, hft, htb⟩, Bool.true_and]
                have dtb : decide (t ≤ base) = true := decide_eq_true htb
                clear HIN
                go_wp2_with fail
                refine (HCP.out _).mono ?_
                rintro e w2 ⟨rfl, b2⟩
                have HB2 := Hid.mk7 (HB1.out.trans (b2.mono HB1.out.size))
                have HRE2 := Hid.mk7 (HRE1.out.later b2)
                have HRD2 := Hid.mk7 (HRD1.out.later b2)
                have e0 := HRE2.out.c0
                have e1 := HRE2.out.c1
                have e2 := HRE2.out.c2
                have d0 := HRD2.out.c0
                have d1' := HRD2.out.c1
                clear b2
                go_wp2
                go_quiet (fail)
                go_wp2
                go_roundw
                case rel => exact ⟨k + 1, t, t + 1, by omega, by go_num, rfl, by go_num, by show _ = _; rw [HKD.out]; rfl, by omega, by omega, by show _ = _; rw [HKD.out]; exact HS2.out, below_drewN HB2.out nq⟩
                case measure => simp [intOf] <;> omega
              · have HBAD : Hid (stR base 0 0 es = false) := by
                  show _ = _
                  rw [HS.out, HGO.out, decide_eq_false (fun h => htb h.2.2), Bool.false_and]
                have dtb : decide (t ≤ base) = false := decide_eq_false htb
                go_wp2_with fail
                refine (HCP.out _).mono ?_
                rintro e w2 ⟨rfl, b2⟩
                have HB2 := Hid.mk7 (HB1.out.trans (b2.mono HB1.out.size))
                have HRE2 := Hid.mk7 (HRE1.out.later b2)
                have HRD2 := Hid.mk7 (HRD1.out.later b2)
                have e0 := HRE2.out.c0
                have e1 := HRE2.out.c1
                have e2 := HRE2.out.c2
                have d0 := HRD2.out.c0
                have d1' := HRD2.out.c1
                clear b2
                go_wp2_with fail
                refine (HIN.out _ (HT0.out.later HB2.out)).mono ?_
                rintro e w3 ⟨rfl, b3⟩
                have HB3 := Hid.mk7 (HB2.out.trans (b3.mono HB2.out.size))
                clear b3 e0 e1 e2 d0 d1'
                go_wp2
                go_ret
                exact ⟨ret_boolE (HF2.out.trans (by rw [HBAD.out]; rfl)).symm, BH.out.trans (HB3.out.mono BH.out.size)⟩
            · have HBAD : Hid (stR base 0 0 es = false) := by
                show _ = _
                rw [HS.out, HGO.out, decide_eq_false (fun h => hlf h.1), Bool.false_and]
              have dlf : decide (en ≤ f) = false := decide_eq_false hlf
              go_wp2_with fail
              refine (HCP.out _).mono ?_
              rintro e w2 ⟨rfl, b2⟩
              have HB2 := Hid.mk7 (HB1.out.trans (b2.mono HB1.out.size))
              have HRE2 := Hid.mk7 (HRE1.out.later b2)
              have HRD2 := Hid.mk7 (HRD1.out.later b2)
              have e0 := HRE2.out.c0
              have e1 := HRE2.out.c1
              have e2 := HRE2.out.c2
              have d0 := HRD2.out.c0
              have d1' := HRD2.out.c1
              clear b2
              go_wp2_with fail
              refine (HIN.out _ (HT0.out.later HB2.out)).mono ?_
              rintro e w3 ⟨rfl, b3⟩
              have HB3 := Hid.mk7 (HB2.out.trans (b3.mono HB2.out.size))
              clear b3 e0 e1 e2 d0 d1'
              go_wp2
              go_ret
              exact ⟨ret_boolE (HF2.out.trans (by rw [HBAD.out]; rfl)).symm, BH.out.trans (HB3.out.mono BH.out.size)⟩
          · have HBAD : Hid (stR base 0 0 es = false) := by
              show _ = _
              rw [HS.out, HGO.out, decide_eq_false (fun h => hft h.2.1), Bool.false_and]
            have hfd : decide (f < t) = false := decide_eq_false hft
            rw [hfd] at HCP
            clear hfd
            go_wp2_with fail
            refine (HCP.out _).mono ?_
            rintro e w2 ⟨rfl, b2⟩
            have HB2 := Hid.mk7 (HB1.out.trans (b2.mono HB1.out.size))
            have HRE2 := Hid.mk7 (HRE1.out.later b2)
            have HRD2 := Hid.mk7 (HRD1.out.later b2)
            have e0 := HRE2.out.c0
            have e1 := HRE2.out.c1
            have e2 := HRE2.out.c2
            have d0 := HRD2.out.c0
            have d1' := HRD2.out.c1
            clear b2
            go_wp2_with fail
            refine (HIN.out _ (HT0.out.later HB2.out)).mono ?_
            rintro e w3 ⟨rfl, b3⟩
            have HB3 := Hid.mk7 (HB2.out.trans (b3.mono HB2.out.size))
            clear b3 e0 e1 e2 d0 d1'
            go_wp2
            go_ret
            exact ⟨ret_boolE (HF2.out.trans (by rw [HBAD.out]; rfl)).symm, BH.out.trans (HB3.out.mono BH.out.size)⟩
        · have HGO : Hid (stR base en 0 (es.drop k) = ((decide (f = 0 ∧ t = 0 ∧ 0 ≠ 1) && vld T) && stR base en 1 (es.drop (k + 1)))) := st_ins HR.out hT0
          have HKD : Hid (kdo es (k + 1) = 1) := kdo_text HR.out hT0
          have hi0 : decide (T.length ≠ 0 ∧ f = 0 ∧ t = 0) = decide (f = 0 ∧ t = 0) := decide_eq_decide.2 ⟨fun h => h.2, fun h => ⟨fun e => hT0 (List.eq_nil_of_length_eq_zero e), h⟩⟩
          have hi1 : decide (T.length = 0) = false := decide_eq_false fun e => hT0 (List.eq_nil_of_length_eq_zero e)
          rw [hi1, Bool.and_false] at HCP
          rw [hi0, HTC.out] at HIN
          clear hi0 hi1 hT0
          by_cases hin : (decide (f = 0 ∧ t = 0) && vld T) = true
          · rw [hin] at HIN
            have HS2 : Hid (stR base 0 0 es = stR base en 1 (es.drop (k + 1))) := by
              show _ = _
              rw [Bool.and_eq_true, decide_eq_true_eq] at hin
              rw [HS.out, HGO.out, decide_eq_true ⟨hin.1.1, hin.1.2, by omega⟩, hin.2]
              rfl
            clear hin
            go_wp2_with fail
            refine (HCP.out _).mono ?_
            rintro e w2 ⟨rfl, b2⟩
            have HB2 := Hid.mk7 (HB1.out.trans (b2.mono HB1.out.size))
            have HRE2 := Hid.mk7 (HRE1.out.later b2)
            have HRD2 := Hid.mk7 (HRD1.out.later b2)
            have e0 := HRE2.out.c0
            have e1 := HRE2.out.c1
            have e2 := HRE2.out.c2
            have d0 := HRD2.out.c0
            have d1' := HRD2.out.c1
            clear b2
            go_wp2_with fail
            refine (HIN.out _ (HT0.out.later HB2.out)).mono ?_
            rintro e w3 ⟨rfl, b3⟩
            have HB3 := Hid.mk7 (HB2.out.trans (b3.mono HB2.out.size))
            clear b3 e0 e1 e2 d0 d1'
            go_wp2
            go_roundw
            case rel => exact ⟨k + 1, en, en, by omega, by go_num, rfl, rfl, by show _ = _; rw [HKD.out]; rfl, by omega, by omega, by show _ = _; rw [HKD.out]; exact HS2.out, HB3.out⟩
            case measure => simp [intOf] <;> omega
          · have hin2 : (decide (f = 0 ∧ t = 0) && vld T) = false := by simpa using hin
            rw [hin2] at HIN
            have HBAD : Hid (stR base 0 0 es = false) := by
              show _ = _
              rw [HS.out, HGO.out]
              rw [Bool.and_eq_false_iff, decide_eq_false_iff_not] at hin2
              rcases hin2 with h | h
              · rw [decide_eq_false (fun h' => h ⟨h'.1, h'.2.1⟩), Bool.false_and, Bool.false_and]
              · rw [h, Bool.and_false, Bool.false_and]
            clear hin hin2
            go_wp2_with fail
            refine (HCP.out _).mono ?_
            rintro e w2 ⟨rfl, b2⟩
            have HB2 := Hid.mk7 (HB1.out.trans (b2.mono HB1.out.size))
            have HRE2 := Hid.mk7 (HRE1.out.later b2)
            have HRD2 := Hid.mk7 (HRD1.out.later b2)
            have e0 := HRE2.out.c0
            have e1 := HRE2.out.c1
            have e2 := HRE2.out.c2
            have d0 := HRD2.out.c0
            have d1' := HRD2.out.c1
            clear b2
            go_wp2_with fail
            refine (HIN.out _ (HT0.out.later HB2.out)).mono ?_
            rintro e w3 ⟨rfl, b3⟩
            have HB3 := Hid.mk7 (HB2.out.trans (b3.mono HB2.out.size))
            clear b3 e0 e1 e2 d0 d1'
            go_wp2
            go_ret
            exact ⟨ret_boolE (HF2.out.trans (by rw [HBAD.out]; rfl)).symm, BH.out.trans (HB3.out.mono BH.out.size)⟩
      · rw [hkd] at HLE HS
        obtain rfl : le = en + 1 := HLE.out
        clear HLE
        obtain rfl := eq_of_size hs'
        clear hs'
        have dk : decide (0 < (j : Int) + 1) = true := decide_eq_true (by omega)
        by_cases hT0 : T = []
        · have HTN : Hid (T = []) := hT0
          have HGO : Hid (stR base en 2 (es.drop (j + 1)) = (decide (en + 1 ≤ f ∧ f < t ∧ t ≤ base) && stR base t 2 (es.drop ((j + 1) + 1)))) := by
            show _ = _
            have hr := HR.out
            rw [hT0] at hr
            rw [st_copy hr]
            congr 1
            exact decide_eq_decide.2 (by constructor <;> intro h <;> (refine ⟨?_, ?_⟩ <;> first | omega | (refine ⟨?_, ?_⟩ <;> omega) | (refine ⟨?_, ?_, ?_⟩ <;> omega)))
          have HKD : Hid (kdo es ((j + 1) + 1) = 2) := by
            have hr := HR.out
            rw [hT0] at hr
            exact kdo_copy hr
          have hi0 : decide (T.length ≠ 0 ∧ f = 0 ∧ t = 0) = false := decide_eq_false fun h => h.1 (by rw [hT0]; rfl)
          have hi1 : decide (T.length = 0) = true := decide_eq_true (by rw [hT0]; rfl)
          rw [hi1, Bool.and_true] at HCP
          rw [hi0, Bool.false_and] at HIN
          clear hi0 hi1 hT0
          by_cases hft : f < t
          · have hfd : decide (f < t) = true := decide_eq_true hft
            rw [hfd] at HCP
            clear hfd
            by_cases hlf : en + 1 ≤ f
            · have dlf : decide (en + 1 ≤ f) = true := decide_eq_true hlf
              by_cases htb : t ≤ base
              · have HS2 : Hid (stR base 0 0 es = stR base t 2 (es.drop ((j + 1) + 1))) := by
                  show _ = _
                  rw [HS.out, HGO.out, decide_eq_true ⟨hlf, hft, htb⟩, Bool.true_and]
                have dtb : decide (t ≤ base) = true := decide_eq_true htb
                clear HIN
                go_wp2_with fail
                refine (HCP.out _).mono ?_
                rintro e w2 ⟨rfl, b2⟩
                have HB2 := Hid.mk7 (HB1.out.trans (b2.mono HB1.out.size))
                have HRE2 := Hid.mk7 (HRE1.out.later b2)
                have HRD2 := Hid.mk7 (HRD1.out.later b2)
                have e0 := HRE2.out.c0
                have e1 := HRE2.out.c1
                have e2 := HRE2.out.c2
                have d0 := HRD2.out.c0
                have d1' := HRD2.out.c1
                clear b2
                go_wp2
                go_quiet (fail)
                go_wp2
                go_roundw
                case rel => exact ⟨j + 1 + 1, t, t + 1, by omega, by go_num, rfl, by go_num, by show _ = _; rw [HKD.out]; rfl, by omega, by omega, by show _ = _; rw [HKD.out]; exact HS2.out, below_drewN HB2.out nq⟩
                case measure => simp [intOf] <;> omega
              · have HBAD : Hid (stR base 0 0 es = false) := by
                  show _ = _
                  rw [HS.out, HGO.out, decide_eq_false (fun h => htb h.2.2), Bool.false_and]
                have dtb : decide (t ≤ base) = false := decide_eq_false htb
                go_wp2_with fail
                refine (HCP.out _).mono ?_
                rintro e w2 ⟨rfl, b2⟩
                have HB2 := Hid.mk7 (HB1.out.trans (b2.mono HB1.out.size))
                have HRE2 := Hid.mk7 (HRE1.out.later b2)
                have HRD2 := Hid.mk7 (HRD1.out.later b2)
                have e0 := HRE2.out.c0
                have e1 := HRE2.out.c1
                have e2 := HRE2.out.c2
                have d0 := HRD2.out.c0
                have d1' := HRD2.out.c1
                clear b2
                go_wp2_with fail
                refine (HIN.out _ (HT0.out.later HB2.out)).mono ?_
                rintro e w3 ⟨rfl, b3⟩
                have HB3 := Hid.mk7 (HB2.out.trans (b3.mono HB2.out.size))
                clear b3 e0 e1 e2 d0 d1'
                go_wp2
                go_ret
                exact ⟨ret_boolE (HF2.out.trans (by rw [HBAD.out]; rfl)).symm, BH.out.trans (HB3.out.mono BH.out.size)⟩
            · have HBAD : Hid (stR base 0 0 es = false) := by
                show _ = _
                rw [HS.out, HGO.out, decide_eq_false (fun h => hlf h.1), Bool.false_and]
              have dlf : decide (en + 1 ≤ f) = false := decide_eq_false hlf
              go_wp2_with fail
              refine (HCP.out _).mono ?_
              rintro e w2 ⟨rfl, b2⟩
              have HB2 := Hid.mk7 (HB1.out.trans (b2.mono HB1.out.size))
              have HRE2 := Hid.mk7 (HRE1.out.later b2)
              have HRD2 := Hid.mk7 (HRD1.out.later b2)
              have e0 := HRE2.out.c0
              have e1 := HRE2.out.c1
              have e2 := HRE2.out.c2
              have d0 := HRD2.out.c0
              have d1' := HRD2.out.c1
              clear b2
              go_wp2_with fail
              refine (HIN.out _ (HT0.out.later HB2.out)).mono ?_
              rintro e w3 ⟨rfl, b3⟩
              have HB3 := Hid.mk7 (HB2.out.trans (b3.mono HB2.out.size))
              clear b3 e0 e1 e2 d0 d1'
              go_wp2
              go_ret
              exact ⟨ret_boolE (HF2.out.trans (by rw [HBAD.out]; rfl)).symm, BH.out.trans (HB3.out.mono BH.out.size)⟩
          · have HBAD : Hid (stR base 0 0 es = false) := by
              show _ = _
              rw [HS.out, HGO.out, decide_eq_false (fun h => hft h.2.1), Bool.false_and]
            have hfd : decide (f < t) = false := decide_eq_false hft
            rw [hfd] at HCP
            clear hfd
            go_wp2_with fail
            refine (HCP.out _).mono ?_
            rintro e w2 ⟨rfl, b2⟩
            have HB2 := Hid.mk7 (HB1.out.trans (b2.mono HB1.out.size))
            have HRE2 := Hid.mk7 (HRE1.out.later b2)
            have HRD2 := Hid.mk7 (HRD1.out.later b2)
            have e0 := HRE2.out.c0
            have e1 := HRE2.out.c1
            have e2 := HRE2.out.c2
            have d0 := HRD2.out.c0
            have d1' := HRD2.out.c1
            clear b2
            go_wp2_with fail
            refine (HIN.out _ (HT0.out.later HB2.out)).mono ?_
            rintro e w3 ⟨rfl, b3⟩
            have HB3 := Hid.mk7 (HB2.out.trans (b3.mono HB2.out.size))
            clear b3 e0 e1 e2 d0 d1'
            go_wp2
            go_ret
            exact ⟨ret_boolE (HF2.out.trans (by rw [HBAD.out]; rfl)).symm, BH.out.trans (HB3.out.mono BH.out.size)⟩
        · have HGO : Hid (stR base en 2 (es.drop (j + 1)) = ((decide (f = 0 ∧ t = 0 ∧ 2 ≠ 1) && vld T) && stR base en 1 (es.drop ((j + 1) + 1)))) := st_ins HR.out hT0
          have HKD : Hid (kdo es ((j + 1) + 1) = 1) := kdo_text HR.out hT0
          have hi0 : decide (T.length ≠ 0 ∧ f = 0 ∧ t = 0) = decide (f = 0 ∧ t = 0) := decide_eq_decide.2 ⟨fun h => h.2, fun h => ⟨fun e => hT0 (List.eq_nil_of_length_eq_zero e), h⟩⟩
          have hi1 : decide (T.length = 0) = false := decide_eq_false fun e => hT0 (List.eq_nil_of_length_eq_zero e)
          rw [hi1, Bool.and_false] at HCP
          rw [hi0, HTC.out] at HIN
          clear hi0 hi1 hT0
          by_cases hin : (decide (f = 0 ∧ t = 0) && vld T) = true
          · rw [hin] at HIN
            have HS2 : Hid (stR base 0 0 es = stR base en 1 (es.drop ((j + 1) + 1))) := by
              show _ = _
              rw [Bool.and_eq_true, decide_eq_true_eq] at hin
              rw [HS.out, HGO.out, decide_eq_true ⟨hin.1.1, hin.1.2, by omega⟩, hin.2]
              rfl
            clear hin
            go_wp2_with fail
            refine (HCP.out _).mono ?_
            rintro e w2 ⟨rfl, b2⟩
            have HB2 := Hid.mk7 (HB1.out.trans (b2.mono HB1.out.size))
            have HRE2 := Hid.mk7 (HRE1.out.later b2)
            have HRD2 := Hid.mk7 (HRD1.out.later b2)
            have e0 := HRE2.out.c0
            have e1 := HRE2.out.c1
            have e2 := HRE2.out.c2
            have d0 := HRD2.out.c0
            have d1' := HRD2.out.c1
            clear b2
            go_wp2_with fail
            refine (HIN.out _ (HT0.out.later HB2.out)).mono ?_
            rintro e w3 ⟨rfl, b3⟩
            have HB3 := Hid.mk7 (HB2.out.trans (b3.mono HB2.out.size))
            clear b3 e0 e1 e2 d0 d1'
            go_wp2
            go_roundw
            case rel => exact ⟨j + 1 + 1, en, en, by omega, by go_num, rfl, rfl, by show _ = _; rw [HKD.out]; rfl, by omega, by omega, by show _ = _; rw [HKD.out]; exact HS2.out, HB3.out⟩
            case measure => simp [intOf] <;> omega
          · have hin2 : (decide (f = 0 ∧ t = 0) && vld T) = false := by simpa using hin
            rw [hin2] at HIN
            have HBAD : Hid (stR base 0 0 es = false) := by
              show _ = _
              rw [HS.out, HGO.out]
              rw [Bool.and_eq_false_iff, decide_eq_false_iff_not] at hin2
              rcases hin2 with h | h
              · rw [decide_eq_false (fun h' => h ⟨h'.1, h'.2.1⟩), Bool.false_and, Bool.false_and]
              · rw [h, Bool.and_false, Bool.false_and]
            clear hin hin2
            go_wp2_with fail
            refine (HCP.out _).mono ?_
            rintro e w2 ⟨rfl, b2⟩
            have HB2 := Hid.mk7 (HB1.out.trans (b2.mono HB1.out.size))
            have HRE2 := Hid.mk7 (HRE1.out.later b2)
            have HRD2 := Hid.mk7 (HRD1.out.later b2)
            have e0 := HRE2.out.c0
            have e1 := HRE2.out.c1
            have e2 := HRE2.out.c2
            have d0 := HRD2.out.c0
            have d1' := HRD2.out.c1
            clear b2
            go_wp2_with fail
            refine (HIN.out _ (HT0.out.later HB2.out)).mono ?_
            rintro e w3 ⟨rfl, b3⟩
            have HB3 := Hid.mk7 (HB2.out.trans (b3.mono HB2.out.size))
            clear b3 e0 e1 e2 d0 d1'
            go_wp2
            go_ret
            exact ⟨ret_boolE (HF2.out.trans (by rw [HBAD.out]; rfl)).symm, BH.out.trans (HB3.out.mono BH.out.size)⟩
      · rw [hkd] at HLE HS
        obtain rfl : en = le := HLE.out.symm
        clear HLE
        obtain ⟨m1, m2⟩ := size_of_ne hs'
        clear hs'
        have dk : decide (0 < (j : Int) + 1) = true := decide_eq_true (by omega)
        by_cases hT0 : T = []
        · have HTN : Hid (T = []) := hT0
          have HGO : Hid (stR base en 1 (es.drop (j + 1)) = (decide (en ≤ f ∧ f < t ∧ t ≤ base) && stR base t 2 (es.drop ((j + 1) + 1)))) := by
            show _ = _
            have hr := HR.out
            rw [hT0] at hr
            rw [st_copy hr]
            congr 1
            exact decide_eq_decide.2 (by constructor <;> intro h <;> (refine ⟨?_, ?_⟩ <;> first | omega | (refine ⟨?_, ?_⟩ <;> omega) | (refine ⟨?_, ?_, ?_⟩ <;> omega)))
          have HKD : Hid (kdo es ((j + 1) + 1) = 2) := by
            have hr := HR.out
            rw [hT0] at hr
            exact kdo_copy hr
          have hi0 : decide (T.length ≠ 0 ∧ f = 0 ∧ t = 0) = false := decide_eq_false fun h => h.1 (by rw [hT0]; rfl)
          have hi1 : decide (T.length = 0) = true := decide_eq_true (by rw [hT0]; rfl)
          rw [hi1, Bool.and_true] at HCP
          rw [hi0, Bool.false_and] at HIN
          clear hi0 hi1 hT0
          by_cases hft : f < t
          · have hfd : decide (f < t) = true := decide_eq_true hft
            rw [hfd] at HCP
            clear hfd
            by_cases hlf : en ≤ f
            · have dlf : decide (en ≤ f) = true := decide_eq_true hlf
              by_cases htb : t ≤ base
              · have HS2 : Hid (stR base 0 0 es = stR base t 2 (es.drop ((j + 1) + 1))) := by
                  show _ = _
                  rw [HS.out, HGO.out, decide_eq_true ⟨hlf, hft, htb⟩, Bool.true_and]
                have dtb : decide (t ≤ base) = true := decide_eq_true htb
                clear HIN
                go_wp2_with fail
                refine (HCP.out _).mono ?_
                rintro e w2 ⟨rfl, b2⟩
                have HB2 := Hid.mk7 (HB1.out.trans (b2.mono HB1.out.size))
                have HRE2 := Hid.mk7 (HRE1.out.later b2)
                have HRD2 := Hid.mk7 (HRD1.out.later b2)
                have e0 := HRE2.out.c0
                have e1 := HRE2.out.c1
                have e2 := HRE2.out.c2
                have d0 := HRD2.out.c0
                have d1' := HRD2.out.c1
                clear b2
                go_wp2
                go_quiet (fail)
                go_wp2
                go_roundw
                case rel => exact ⟨j + 1 + 1, t, t + 1, by omega, by go_num, rfl, by go_num, by show _ = _; rw [HKD.out]; rfl, by omega, by omega, by show _ = _; rw [HKD.out]; exact HS2.out, below_drewN HB2.out nq⟩
                case measure => simp [intOf] <;> omega
              · have HBAD : Hid (stR base 0 0 es = false) := by
                  show _ = _
                  rw [HS.out, HGO.out, decide_eq_false (fun h => htb h.2.2), Bool.false_and]
                have dtb : decide (t ≤ base) = false := decide_eq_false htb
                go_wp2_with fail
                refine (HCP.out _).mono ?_
                rintro e w2 ⟨rfl, b2⟩
                have HB2 := Hid.mk7 (HB1.out.trans (b2.mono HB1.out.size))
                have HRE2 := Hid.mk7 (HRE1.out.later b2)
                have HRD2 := Hid.mk7 (HRD1.out.later b2)
                have e0 := HRE2.out.c0
                have e1 := HRE2.out.c1
                have e2 := HRE2.out.c2
                have d0 := HRD2.out.c0
                have d1' := HRD2.out.c1
                clear b2
                go_wp2_with fail
                refine (HIN.out _ (HT0.out.later HB2.out)).mono ?_
                rintro e w3 ⟨rfl, b3⟩
                have HB3 := Hid.mk7 (HB2.out.trans (b3.mono HB2.out.size))
                clear b3 e0 e1 e2 d0 d1'
                go_wp2
                go_ret
                exact ⟨ret_boolE (HF2.out.trans (by rw [HBAD.out]; rfl)).symm, BH.out.trans (HB3.out.mono BH.out.size)⟩
            · have HBAD : Hid (stR base 0 0 es = false) := by
                show _ = _
                rw [HS.out, HGO.out, decide_eq_false (fun h => hlf h.1), Bool.false_and]
              have dlf : decide (en ≤ f) = false := decide_eq_false hlf
              go_wp2_with fail
              refine (HCP.out _).mono ?_
              rintro e w2 ⟨rfl, b2⟩
              have HB2 := Hid.mk7 (HB1.out.trans (b2.mono HB1.out.size))
              have HRE2 := Hid.mk7 (HRE1.out.later b2)
              have HRD2 := Hid.mk7 (HRD1.out.later b2)
              have e0 := HRE2.out.c0
              have e1 := HRE2.out.c1
              have e2 := HRE2.out.c2
              have d0 := HRD2.out.c0
              have d1' := HRD2.out.c1
              clear b2
              go_wp2_with fail
              refine (HIN.out _ (HT0.out.later HB2.out)).mono ?_
              rintro e w3 ⟨rfl, b3⟩
              have HB3 := Hid.mk7 (HB2.out.trans (b3.mono HB2.out.size))
              clear b3 e0 e1 e2 d0 d1'
              go_wp2
              go_ret
              exact ⟨ret_boolE (HF2.out.trans (by rw [HBAD.out]; rfl)).symm, BH.out.trans (HB3.out.mono BH.out.size)⟩
          · have HBAD : Hid (stR base 0 0 es = false) := by
              show _ = _
              rw [HS.out, HGO.out, decide_eq_false (fun h => hft h.2.1), Bool.false_and]
            have hfd : decide (f < t) = false := decide_eq_false hft
            rw [hfd] at HCP
            clear hfd
            go_wp2_with fail
            refine (HCP.out _).mono ?_
            rintro e w2 ⟨rfl, b2⟩
            have HB2 := Hid.mk7 (HB1.out.trans (b2.mono HB1.out.size))
            have HRE2 := Hid.mk7 (HRE1.out.later b2)
            have HRD2 := Hid.mk7 (HRD1.out.later b2)
            have e0 := HRE2.out.c0
            have e1 := HRE2.out.c1
            have e2 := HRE2.out.c2
            have d0 := HRD2.out.c0
            have d1' := HRD2.out.c1
            clear b2
            go_wp2_with fail
            refine (HIN.out _ (HT0.out.later HB2.out)).mono ?_
            rintro e w3 ⟨rfl, b3⟩
            have HB3 := Hid.mk7 (HB2.out.trans (b3.mono HB2.out.size))
            clear b3 e0 e1 e2 d0 d1'
            go_wp2
            go_ret
            exact ⟨ret_boolE (HF2.out.trans (by rw [HBAD.out]; rfl)).symm, BH.out.trans (HB3.out.mono BH.out.size)⟩
        · have HGO : Hid (stR base en 1 (es.drop (j + 1)) = ((decide (f = 0 ∧ t = 0 ∧ 1 ≠ 1) && vld T) && stR base en 1 (es.drop ((j + 1) + 1)))) := st_ins HR.out hT0
          have HKD : Hid (kdo es ((j + 1) + 1) = 1) := kdo_text HR.out hT0
          have hi0 : decide (T.length ≠ 0 ∧ f = 0 ∧ t = 0) = decide (f = 0 ∧ t = 0) := decide_eq_decide.2 ⟨fun h => h.2, fun h => ⟨fun e => hT0 (List.eq_nil_of_length_eq_zero e), h⟩⟩
          have hi1 : decide (T.length = 0) = false := decide_eq_false fun e => hT0 (List.eq_nil_of_length_eq_zero e)
          rw [hi1, Bool.and_false] at HCP
          rw [hi0, HTC.out] at HIN
          clear hi0 hi1 hT0
          by_cases hin : (decide (f = 0 ∧ t = 0) && vld T) = true
          · rw [hin] at HIN
            have HBAD : Hid (stR base 0 0 es = false) := by
              show _ = _
              rw [HS.out, HGO.out, decide_eq_false (fun h => h.2.2 rfl), Bool.false_and, Bool.false_and]
            clear hin
            go_wp2_with fail
            refine (HCP.out _).mono ?_
            rintro e w2 ⟨rfl, b2⟩
            have HB2 := Hid.mk7 (HB1.out.trans (b2.mono HB1.out.size))
            have HRE2 := Hid.mk7 (HRE1.out.later b2)
            have HRD2 := Hid.mk7 (HRD1.out.later b2)
            have e0 := HRE2.out.c0
            have e1 := HRE2.out.c1
            have e2 := HRE2.out.c2
            have d0 := HRD2.out.c0
            have d1' := HRD2.out.c1
            clear b2
            go_wp2_with fail
            refine (HIN.out _ (HT0.out.later HB2.out)).mono ?_
            rintro e w3 ⟨rfl, b3⟩
            have HB3 := Hid.mk7 (HB2.out.trans (b3.mono HB2.out.size))
            clear b3 e0 e1 e2 d0 d1'
            go_wp2
            go_ret
            exact ⟨ret_boolE (HF2.out.trans (by rw [HBAD.out]; rfl)).symm, BH.out.trans (HB3.out.mono BH.out.size)⟩
          · have hin2 : (decide (f = 0 ∧ t = 0) && vld T) = false := by simpa using hin
            rw [hin2] at HIN
            have HBAD : Hid (stR base 0 0 es = false) := by
              show _ = _
              rw [HS.out, HGO.out]
              rw [Bool.and_eq_false_iff, decide_eq_false_iff_not] at hin2
              rcases hin2 with h | h
              · rw [decide_eq_false (fun h' => h ⟨h'.1, h'.2.1⟩), Bool.false_and, Bool.false_and]
              · rw [h, Bool.and_false, Bool.false_and]
            clear hin hin2
            go_wp2_with fail
            refine (HCP.out _).mono ?_
            rintro e w2 ⟨rfl, b2⟩
            have HB2 := Hid.mk7 (HB1.out.trans (b2.mono HB1.out.size))
            have HRE2 := Hid.mk7 (HRE1.out.later b2)
            have HRD2 := Hid.mk7 (HRD1.out.later b2)
            have e0 := HRE2.out.c0
            have e1 := HRE2.out.c1
            have e2 := HRE2.out.c2
            have d0 := HRD2.out.c0
            have d1' := HRD2.out.c1
            clear b2
            go_wp2_with fail
            refine (HIN.out _ (HT0.out.later HB2.out)).mono ?_
            rintro e w3 ⟨rfl, b3⟩
            have HB3 := Hid.mk7 (HB2.out.trans (b3.mono HB2.out.size))
            clear b3 e0 e1 e2 d0 d1'
            go_wp2
            go_ret
            exact ⟨ret_boolE (HF2.out.trans (by rw [HBAD.out]; rfl)).symm, BH.out.trans (HB3.out.mono BH.out.size)⟩
    · obtain rfl : k = es.length := by omega
      have HS1 : Hid (stR base 0 0 es = true) := by
        show _ = _
        rw [HS.out, List.drop_length]; rfl
      have hnm := (stR_spec es 0 0).1 HS1.out
      have hbd := nm_bd hbase.2 es 0 0 (by omega) hnm.1
      have hc1 := cpS_bd es hbd
      have hc2 := inS_bd es _ HSM.out
      have HV1 := Hid.mk7 (HV0.out.later hb)
      have HCC := Hid.mk7 (fun d os => Calls.regrown_of (copied_any (HV1.out.later (below_regrown wr d os)) hbd (by omega)))
      have HCI := Hid.mk7 (fun d os => Calls.regrown_of (inserted_any (HV1.out.later (below_regrown wr d os)) HSM.out (by omega)))
      have HE : Hid (isB base es = decide (cpS es + (inS es : Int) ≤ 20000)) := by
        show _ = _
        rw [HF2.out, HS1.out, Bool.true_and, szE_two]
      have zk := cell_regrown rk1
      clear hnm hbd HLE HS HS1 rk0 rk1
      generalize cpS es = cp at *
      generalize inS es = im at *
      have hcl : 281474976710656 * es.length ≤ 281474976710656 * 60 := Nat.mul_le_mul_left _ hlen
      have him : im ≤ 16888498602639360 := by omega
      have hcp : cp ≤ 1200000 := by omega
      clear hc2 hcl
      go_wp2
      refine wp_region_quiet_below (by kernel_rfl) (by kernel_rfl) ?_
      repeat (go_big_quiet_step (first | (go_at_call 50; exact HCC.out _ _) | (go_at_call 51; exact HCI.out _ _)))
      refine wpQuiet_nil ?_
      intro _ hw'
      obtain ⟨⟨dq, osq⟩, hw''⟩ := hw'
      subst hw''
      have hb2 := hb.trans ((below_regrown wr dq osq).mono hb.size)
      clear zk HCC HCI hb
      generalize grow (redrawn wr dq) osq = W at *
      go_wp2
      go_ret
      exact ⟨ret_boolE HE.out.symm, BH.out.trans (hb2.mono BH.out.size)⟩
end Go.Proofs.YtafhogfbjklboaaDoor
namespace Go.Proofs.YtafhogfbjklboaaDoor
open Go.RowKit Go.Sort
set_option linter.unusedSimpArgs false
set_option linter.unusedVariables false

theorem ret_intE {a b : Int} (h : a = b) : Ending.returned (.int .i64 a) = .returned (.int .i64 b) := by rw [h]
/-- What a delta's bounds are. -/
structure Dl (base : Int) (es : List El) : Prop where
  b0 : 0 ≤ base
  b1 : base ≤ 20000
  len : es.length ≤ 60
  bd : Bd es
  cp0 : 0 ≤ cpS es
  cp1 : cpS es ≤ base
  sz : cpS es + (inS es : Int) ≤ 20000
  nm : Nm base 0 0 es
  vl : ∀ e ∈ es, vld e.2.2 = true
theorem dl_of {base : Int} {es : List El} (h : isB base es = true) : Dl base es := by
  obtain ⟨⟨h1, h2, h3⟩, h4, h5, h6⟩ := isB_spec.1 h
  have hb := nm_bd h2 es 0 0 (Int.le_refl _) h4
  have hc := nm_cp es 0 0 h4
  rw [szE_two] at h6
  exact ⟨h1, h2, h3, hb, (cpS_bd es hb).1, by omega, h6, h4, h5⟩
theorem of_dl {base : Int} {es : List El} (h : Dl base es) : isB base es = true :=
  isB_spec.2 ⟨⟨h.b0, h.b1, h.len⟩, h.nm, h.vl, by rw [szE_two]; exact h.sz⟩
theorem Dl.sm {base : Int} {es : List El} (h : Dl base es) : Sm es 20000 := by
  have : ∀ (l : List El) (e : El), e ∈ l → e.2.2.length ≤ inS l := by
    intro l e he
    induction l with
    | nil => cases he
    | cons x l ih =>
      simp only [inS, List.map_cons, List.sum_cons] at *
      rcases List.mem_cons.1 he with rfl | he
      · omega
      · have := ih he; omega
  intro e he
  have h1 := this es e he
  have h2 := h.sz
  have h3 := h.cp0
  omega
set_option maxHeartbeats 2000000 in
set_option maxRecDepth 100000 in
theorem size_anyE {w : World} {v : Value} {es : List El} (base : Int) (h : ElAt w v es) (hsm : Sm es 281474976710656) (tb : Nat × Nat) (hT : Tab w tb) :
    Calls Tryd.prog 33 #[.agg #[.int .i64 base, v]] w fun e w' => e = .returned (.int .i64 (if isB base es then szE es else 0)) ∧ Below w.heap.size w w' := by
  have HV := Hid.mk7 (h.alloc (.cells #[.int .i64 base, v] 25))
  obtain ⟨a, cap, rfl, _⟩ := id h
  have BB := Hid.mk7 (below_newE (Below.refl w.heap.size w) (.cells #[.int .i64 base, .slice a es.length cap] 25))
  have RDH := Hid.mk7 (Rd.new w (.int .i64 base) (.slice a es.length cap))
  have HIS := Hid.mk7 (is_any base HV.out hsm tb (hT.later BB.out))
  clear h hT
  by_cases hi : isB base es = true
  · rw [hi] at HIS ⊢
    have hd := dl_of hi
    have HSZ := Hid.mk7 (szE_two es)
    rw [if_pos rfl]
    have r0 := RDH.out.c0
    have r1 := RDH.out.c1
    go_enter Tryd.func33, Tryd.ntmps33
    go_wp2_with fail
    refine HIS.out.mono ?_
    rintro e w1 ⟨rfl, b1⟩
    have RD1 := RDH.out.later b1
    have hb := BB.out.trans (b1.mono BB.out.size)
    have HV1 := Hid.mk7 (HV.out.later b1)
    have HCC := Hid.mk7 (fun d os => Calls.regrown_of (copied_any (HV1.out.later (below_regrown w1 d os)) hd.bd (by have := hd.len; omega)))
    have HCI := Hid.mk7 (fun d os => Calls.regrown_of (inserted_any (HV1.out.later (below_regrown w1 d os)) hsm (by have := hd.len; omega)))
    have z0 := cell_regrown RD1.c0
    have z1 := cell_regrown RD1.c1
    have hcp := hd.cp0
    have hsz := hd.sz
    clear HIS RD1 r0 r1 hd hsm b1 HV
    generalize cpS es = cp at *
    generalize inS es = im at *
    go_wp2
    refine wp_region_quiet_below (by kernel_rfl) (by kernel_rfl) ?_
    repeat (go_big_quiet_step (first | (go_at_call 50; exact HCC.out _ _) | (go_at_call 51; exact HCI.out _ _)))
    refine wpQuiet_nil ?_
    intro _ hw'
    obtain ⟨⟨dq, osq⟩, hw''⟩ := hw'
    subst hw''
    have hb2 := hb.trans ((below_regrown w1 dq osq).mono hb.size)
    clear z0 z1 HCC HCI hb
    generalize grow (redrawn w1 dq) osq = W at *
    go_wp2
    go_ret
    exact ⟨ret_intE (by rw [HSZ.out]), hb2⟩
  · have hi' : isB base es = false := by simpa using hi
    rw [hi'] at HIS ⊢
    rw [if_neg (by simp)]
    have r0 := RDH.out.c0
    have r1 := RDH.out.c1
    go_enter Tryd.func33, Tryd.ntmps33
    go_wp2_with fail
    refine HIS.out.mono ?_
    rintro e w1 ⟨rfl, b1⟩
    go_wp2
    go_ret
    exact ⟨rfl, BB.out.trans (b1.mono BB.out.size)⟩
end Go.Proofs.YtafhogfbjklboaaDoor
