/- count.Of, of texts whose steps are known; the rules of counting where nothing is known of the library's tables. -/
import Derived.Test.YtfgefdkkjfjjjaaDoorWeak
namespace Go.Proofs.YtfgefdkkjfjjjaaDoor
open Go.RowKit Go.Sort
set_option linter.unusedSimpArgs false
set_option linter.unusedVariables false

def cellNat5 (w : World) (g : Nat) : Nat := match w.cell? ⟨g, 0, none⟩ with | some (.int _ b) => b.toNat | _ => 0
theorem cellNat5_of {w : World} {g n : Nat} {x1 x2 x3 : Value} (h : Row4 w g (.int .i64 (n : Nat)) x1 x2 x3) : cellNat5 w g = n := by
  unfold cellNat5; rw [h.c0]; simp

set_option maxHeartbeats 4000000 in
set_option maxRecDepth 100000 in
theorem of_weak (s : ByteArray) (w : World) (tb : Nat × Nat) (hs : s.size ≤ 1000000) (hv : vld s.data.toList = true) (hst : ∀ i, i < s.size → Weak1 (s.extract i s.size)) (hB : Byt8 w) (hT : Tab w tb) :
    Calls Tryd.prog 100 #[.string s] w fun e w' => ∃ x1 x2 x3, e = .returned (.agg #[.int .i64 (s.size : Nat), .int .i64 x1, .int .i64 x2, .int .i64 x3]) ∧ Below w.heap.size w w' := by
  have b0 : Below w.heap.size w (w.alloc (Obj.cells #[.int .i64 0, .int .i64 0, .int .i64 0, .int .i64 0] 54)) := (Below.refl _ _).alloc (Nat.le_refl _) _
  have HCL : Hid (∀ W, Tab W tb → Calls Tryd.prog 26 #[.string s] W fun e w' => e = .returned (.string s) ∧ Below W.heap.size W w') := fun W h => by
    have := clean_any s W tb (by omega) h
    rw [cln_of_valid hv, array_eq rfl] at this
    exact this
  have HST := Hid.mk4 hst
  clear hst hv
  go_enter Tryd.func100, Tryd.ntmps100
  go_wp2_with fail
  refine (HCL.out _ (hT.later b0)).mono ?_
  rintro e w1 ⟨rfl, b1⟩
  have r1 : Row4 w1 w.heap.size (.int .i64 0) (.int .i64 0) (.int .i64 0) (.int .i64 0) := (Row4.new w _ _ _ _).later b1 (by simp)
  have g1 := b0.trans (b1.mono b0.size)
  have R1 := Hid.mk4 r1
  have hlt := r1.lt
  clear r1 b0 b1 HCL
  go_wp2
  go_loopw [] (fun wr => ∃ (n : Nat) (x1 x2 x3 : Int), n ≤ s.size ∧ Hid (Row4 wr w1.heap.size (.int .i64 (n : Nat)) (.int .i64 x1) (.int .i64 x2) (.int .i64 x3)) ∧ Hid (Row4 wr w.heap.size (.int .i64 0) (.int .i64 0) (.int .i64 0) (.int .i64 0)) ∧ Below w.heap.size w wr) (fun wr => s.size - cellNat5 wr w1.heap.size)
  case atStart => exact ⟨0, 0, 0, 0, Nat.zero_le _, Row4.new w1 _ _ _ _, R1.out.alloc _, g1.alloc g1.size _⟩
  case round =>
    obtain ⟨n, x1, x2, x3, hn, HA, HR, hb⟩ := hrel
    have c0 := HA.out.c0; have c1 := HA.out.c1; have c2 := HA.out.c2; have c3 := HA.out.c3; have fz := HA.out.fz
    have hm : Hid (cellNat5 wr w1.heap.size = n) := cellNat5_of HA.out
    by_cases hin : n < s.size
    · have hin' : (n : Int) < (s.size : Int) := by omega
      have z0 := cell_regrown c0; have z1 := cell_regrown c1; have z2 := cell_regrown c2; have z3 := cell_regrown c3
      have HF : Hid (∀ W, Below wr.heap.size wr W → Calls Tryd.prog 102 #[.string (s.extract n s.size)] W fun e w' => ∃ (m : Nat) (u l : Int), e = .returned (.agg #[.int .i64 (m : Nat), .int .i64 1, .int .i64 u, .int .i64 l]) ∧ 1 ≤ m ∧ m ≤ (s.extract n s.size).size ∧ Below W.heap.size W w') := fun W hW => first_weak _ W ((hB.later hb).later hW) (HST.out n hin) (by simp; omega)
      clear R1
      go_wp2
      refine wp_region_mix [([0, 1, 2, 3, 4], [5]), ([], [6]), ([], [7])] (by kernel_rfl) (by kernel_rfl) ?_
      rintro w2 ⟨d2, rfl⟩
      refine wpPlan_cons ?_
      simp only [pickAll, pickAt, List.nil_append, List.cons_append, List.append_nil]
      clear c0 c1 c2 c3 fz
      repeat (go_big_quiet_step (fail))
      refine wpQuiet_nil ?_
      clear z0 z1 z2 z3
      go_wp2_with fail
      refine (HF.out _ (below_redrawn wr d2)).mono ?_
      rintro e w3 ⟨m, u, l, rfl, hm1, hm2, b3⟩
      have hm3 : n + m ≤ s.size := by simp at hm2; omega
      have b13 : Below wr.heap.size wr w3 := (below_redrawn wr d2).trans b3
      clear HF b3 hm2
      go_wp2
      refine mixNext_below b13 ?_
      refine wpPlan_cons ?_
      simp only [pickAll, pickAt, List.nil_append, List.cons_append, List.append_nil]
      refine wpQuiet_nil ?_
      have HP : Hid (Calls Tryd.prog 101 #[.agg #[.int .i64 (n : Nat), .int .i64 x1, .int .i64 x2, .int .i64 x3], .agg #[.int .i64 (m : Nat), .int .i64 1, .int .i64 u, .int .i64 l]] w3 fun e w' => e = .returned (.agg #[.int .i64 ((n + m : Nat) : Int), .int .i64 (wrap64 (x1 + 1)), .int .i64 (wrap64 (x2 + u)), .int .i64 (wrap64 (x3 + l))]) ∧ Below w3.heap.size w3 w') := by
        have := cplus_any n x1 x2 x3 m 1 u l w3
        rw [show wrap64 ((n : Int) + (m : Int)) = ((n + m : Nat) : Int) from by unfold wrap64; omega] at this
        exact this
      generalize wrap64 (x1 + 1) = y1 at *
      generalize wrap64 (x2 + u) = y2 at *
      generalize wrap64 (x3 + l) = y3 at *
      go_wp2_with fail
      refine HP.out.mono ?_
      rintro e w4 ⟨rfl, b4⟩
      have b14 : Below wr.heap.size wr w4 := b13.trans (b4.mono b13.size)
      clear HP b4 b13
      go_wp2
      refine mixNext_below b14 ?_
      refine wpPlan_cons ?_
      simp only [pickAll, pickAt, List.nil_append, List.cons_append, List.append_nil]
      refine wpQuiet_nil ?_
      have HA2 := Hid.mk4 (HA.out.later b14 HA.out.lt)
      have HR2 := Hid.mk4 (HR.out.later b14 HR.out.lt)
      have hb2 := hb.trans (b14.mono hb.size)
      clear HA HR hb b14
      have c0 := HA2.out.c0; have c1 := HA2.out.c1; have c2 := HA2.out.c2; have c3 := HA2.out.c3; have fz := HA2.out.fz
      have hlt2 := HA2.out.lt
      go_wp2
      refine mixNext_last ?_
      have HA3 := Hid.mk4 (HA2.out.set (.int .i64 ((n : Int) + (m : Int))) (.int .i64 y1) (.int .i64 y2) (.int .i64 y3))
      have HR3 := Hid.mk4 (HR2.out.other (g' := w1.heap.size) (by omega) (.int .i64 ((n : Int) + (m : Int))) (.int .i64 y1) (.int .i64 y2) (.int .i64 y3))
      have hb3 := below_set4 hb2 (g := w1.heap.size) (by omega) (.int .i64 ((n : Int) + (m : Int))) (.int .i64 y1) (.int .i64 y2) (.int .i64 y3)
      clear HA2 HR2 hb2 c0 c1 c2 c3 fz hlt2
      generalize (((w4.setCell ⟨w1.heap.size, 0, none⟩ (.int .i64 ((n : Int) + (m : Int)))).setCell ⟨w1.heap.size, 1, none⟩ (.int .i64 y1)).setCell ⟨w1.heap.size, 2, none⟩ (.int .i64 y2)).setCell ⟨w1.heap.size, 3, none⟩ (.int .i64 y3) = w5 at *
      have HA4 : Hid (Row4 w5 w1.heap.size (.int .i64 ((n + m : Nat) : Int)) (.int .i64 y1) (.int .i64 y2) (.int .i64 y3)) := by
        show Row4 _ _ _ _ _ _
        rw [Int.natCast_add]
        exact HA3.out
      clear HA3
      go_wp2
      go_roundw
      case rel => exact ⟨n + m, y1, y2, y3, hm3, HA4, HR3, hb3⟩
      case measure => rw [cellNat5_of HA4.out, hm.out]; omega
    · have hin' : decide ((n : Int) < (s.size : Int)) = false := by simp; omega
      have hin'' : decide (n < s.size) = false := by simp; omega
      obtain rfl : n = s.size := by omega
      have d0 := HR.out.c0; have d1 := HR.out.c1; have d2 := HR.out.c2; have d3 := HR.out.c3; have fr := HR.out.fz
      have hrl := HR.out.lt
      clear hin
      go_wp2
      exact bodyPost_ret (results_row4 rfl _ _ w.heap.size _ _ _ _ rfl (HR.out.set _ _ _ _)) rfl ⟨x1, x2, x3, rfl, below_set4 hb (Nat.le_refl _) _ _ _ _⟩

/-- The rules of counting where nothing is known of the library's tables. -/
def weakE (tb : Nat × Nat) : Env where
  KR := fun ls x0 _ _ _ => x0 = wrap64 ((ls.map ByteArray.size).sum : Nat)
  Tb := fun w => Byt8 w ∧ Tab w tb
  D := fun s => s.size ≤ 1000000 ∧ vld s.data.toList = true ∧ ∀ i, i < s.size → Weak1 (s.extract i s.size)
  zero := by simp [wrap64]
  plus := by
    intro a b x0 x1 x2 x3 y0 y1 y2 y3 h1 h2
    rw [h1, h2, List.map_append, List.sum_append]
    unfold wrap64
    omega
  bytes := fun h => h
  later := fun h hb => ⟨h.1.later hb, h.2.later hb⟩
  of := fun s hD W hW => (of_weak s W tb hD.1 hD.2.1 hD.2.2 hW.1 hW.2).mono fun e w' ⟨x1, x2, x3, he, hb⟩ => ⟨_, x1, x2, x3, he, by
    show _ = wrap64 (([s].map ByteArray.size).sum : Nat)
    have := hD.1
    simp
    unfold wrap64
    omega, hb⟩

/-- ASCII. -/
def Asc (l : List UInt8) : Prop := ∀ b ∈ l, b.toNat < 128
theorem asc_sz {b : UInt8} {l : List UInt8} (h : b.toNat < 128) : sz1 (b :: l) = 1 := by
  unfold sz1
  rw [if_neg (by simp)]
  exact szI_one (by simp; omega) (by rw [bl_zero]; omega)
theorem asc_vld : ∀ {l : List UInt8}, Asc l → vld l = true
  | [], _ => rfl
  | b :: l, h => by
    have h1 := asc_sz (l := l) (h b (by simp))
    rw [vld_step (by simp) (by rw [h1]; decide), h1]
    exact asc_vld fun x hx => h x (List.mem_of_mem_drop hx)
theorem asc_weak1 {s : ByteArray} (h : Asc s.data.toList) {i : Nat} (hi : i < s.size) : Weak1 (s.extract i s.size) := by
  left
  have hsz : (s.extract i s.size).size = s.size - i := by simp
  refine ⟨(s[i]'hi).toNat, ?_, by omega, fun q => ?_⟩
  · exact h _ (by rw [ByteArray.getElem_eq_getElem_data]; exact Array.getElem_mem_toList _)
  · congr 1
    simp [ByteArray.getElem_extract]
theorem asc_D (tb : Nat × Nat) {s : ByteArray} (h : Asc s.data.toList) (hs : s.size ≤ 1000000) : (weakE tb).D s :=
  show s.size ≤ 1000000 ∧ vld s.data.toList = true ∧ ∀ i, i < s.size → Weak1 (s.extract i s.size) from ⟨hs, asc_vld h, fun _ hi => asc_weak1 h hi⟩
theorem asc_Dt (tb : Nat × Nat) {t : List UInt8} (h : Asc t) (hl : t.length ≤ 1000000) : Dt (weakE tb) t := by
  intro a b c e _ _ _ s hs
  have hb : Asc b := fun x hx => h x (by rw [e]; simp [hx])
  refine asc_D tb (hs ▸ hb) ?_
  rw [← bytes_length, hs]
  have := congrArg List.length e
  simp at this
  omega
end Go.Proofs.YtfgefdkkjfjjjaaDoor
