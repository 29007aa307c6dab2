/- elements; Keep. -/
import Derived.Test.YtalolaajcmndeaaDoorDelAdd
namespace Go.Proofs.YtalolaajcmndeaaDoor
open Go.RowKit Go.Sort Go.Lib
set_option linter.unusedSimpArgs false
set_option linter.unusedVariables false

theorem Rc.grown {w w' : World} {row : Option Nat} {g : Nat} {x y z : Value} (h : Rc w g x y z) (hg : w.grownBy w' row) (hne : some g ≠ row) : Rc w' g x y z := (hg.block g h.lt hne).trans h
theorem OwnE.lt {w : World} {B : Nat} {v : Value} {es : List El} (h : OwnE w B v es) {g : Nat} (hg : v.ownBlock = some g) : B ≤ g ∧ g < w.heap.size := World.ownsRow.lt h g hg
theorem OwnB.lt {w : World} {B : Nat} {v : Value} {T : List UInt8} (h : OwnB w B v T) {g : Nat} (hg : v.ownBlock = some g) : B ≤ g ∧ g < w.heap.size := World.ownsRow.lt h g hg
theorem OwnB.kept {w w' : World} {row : Option Nat} {B : Nat} {v : Value} {T : List UInt8} (h : OwnB w B v T) (hg : w.grownBy w' row) (hne : v.ownBlock = none ∨ v.ownBlock ≠ row) : OwnB w' B v T := World.ownsRow.kept h hg hne
theorem OwnE.kept {w w' : World} {row : Option Nat} {B : Nat} {v : Value} {es : List El} (h : OwnE w B v es) (hg : w.grownBy w' row) (hne : v.ownBlock = none ∨ v.ownBlock ≠ row) : OwnE w' B v es := World.ownsRow.kept h hg hne
theorem OwnB.alloc {w : World} {B : Nat} {v : Value} {T : List UInt8} (h : OwnB w B v T) (o : Obj) : OwnB (w.alloc o) B v T := World.ownsRow.alloc h o
theorem elG_skip {base : Int} {txt : List UInt8} {en : Int} {l : List El} {k : Nat} {f : Int} (hr : l[k]? = some (f, f, [])) : elG base txt en (l.drop k) = elG base txt en (l.drop (k + 1)) := by
  rw [drop_consE hr, elG, if_pos ⟨rfl, rfl⟩]
theorem elG_copy {base : Int} {txt : List UInt8} {en : Int} {l : List El} {k : Nat} {f t : Int} {T : List UInt8} (hr : l[k]? = some (f, t, T)) (hn : ¬ (f = t ∧ T = [])) (he : en < f) : elG base txt en (l.drop k) = tx txt ++ (en, f, []) :: elG base T t (l.drop (k + 1)) := by
  rw [drop_consE hr, elG, if_neg hn, if_pos he]
theorem elG_text {base : Int} {txt : List UInt8} {en : Int} {l : List El} {k : Nat} {f t : Int} {T : List UInt8} (hr : l[k]? = some (f, t, T)) (hn : ¬ (f = t ∧ T = [])) (he : ¬ en < f) : elG base txt en (l.drop k) = elG base (txt ++ T) t (l.drop (k + 1)) := by
  rw [drop_consE hr, elG, if_neg hn, if_neg he]
theorem inS_take_le (l : List El) (k : Nat) : inS (l.take k) ≤ inS l := by
  conv => rhs; rw [← List.take_append_drop k l, inS_append]
  omega
theorem inS_take {l : List El} {k : Nat} {e : El} (hr : l[k]? = some e) : inS (l.take (k + 1)) = inS (l.take k) + e.2.2.length := by
  rw [take_snoc7 hr, inS_append]; simp [inS]
/-- What the loop hands on. -/
structure Em (base : Int) (l : List El) (W : World) (B : Nat) (wr : World) (k : Nat) (ev tv : Value) (acc : List El) (txt : List UInt8) (en : Int) : Prop where
  eo : OwnE wr B ev acc
  tw : OwnB wr B tv txt
  ap : ∀ j, ev.ownBlock = some j → tv.ownBlock ≠ some j
  el : acc.length ≤ 2 * k
  tl : txt.length ≤ inS (l.take k)
  eq : elG base [] 0 l = acc ++ elG base txt en (l.drop k)
  be : RowKit.Below W.heap.size W wr
theorem reset_value {a : Option Addr} {cap : Nat} {W : World} {B : Nat} {txt : List UInt8} (h : OwnB W B (.slice a txt.length cap) txt) : OwnB W B (.slice a 0 cap) [] ∧ (Value.slice a 0 cap).ownBlock = (Value.slice a txt.length cap).ownBlock := by
  obtain ⟨a', cap', e, _, h2⟩ := h.shape
  cases e
  rcases h2 with ⟨rfl, rfl, _⟩ | ⟨g, rfl, _⟩
  · exact ⟨OwnB.nil _ _, rfl⟩
  · exact ⟨h.reset, rfl⟩
set_option maxHeartbeats 8000000 in
set_option maxRecDepth 100000 in
theorem elements_any {w : World} {v : Value} {l : List El} (base : Int) (h : ElAt w v l) (hl : l.length ≤ 1000) (hin : inS l ≤ 100000) :
    Calls Tryd.prog 51 #[.int .i64 base, v] w fun e w' => ∃ v', e = .returned v' ∧ OwnE w' w.heap.size v' (elG base [] 0 l) ∧ RowKit.Below w.heap.size w w' := by
  obtain ⟨i0, hi, hz0, hz1, hz2⟩ := info_parts Tryd.info_el
  have HI := Hid.mk7 hi
  obtain ⟨a, cap, rfl, hcap, _, hcells⟩ := h
  have HC := Hid.mk7 hcells
  clear hcells hi
  go_enter Tryd.func51, Tryd.ntmps51
  go_wp2
  go_loopw [5, 6, 7, 12] (fun ev tv nv iv wr => ∃ (k : Nat) (acc : List El) (txt : List UInt8) (en : Int), k ≤ l.length ∧ iv = .int .i64 (k : Nat) ∧ nv = .int .i64 en ∧ Hid (Em base l w w.heap.size wr k ev tv acc txt en)) (fun _ _ _ iv _ => l.length - (intOf iv).toNat)
  case atStart => exact ⟨0, [], [], 0, Nat.zero_le _, rfl, rfl, ⟨OwnE.nil _ _, OwnB.nil _ _, (fun j h => by cases h), Nat.le_refl _, Nat.zero_le _, rfl, RowKit.Below.refl _ _⟩⟩
  case round =>
    obtain ⟨k, acc, txt, en, hk, rfl, rfl, HE⟩ := hrel
    have hacc := HE.out.el
    have htxt := Nat.le_trans HE.out.tl (inS_take_le l k)
    have hb := HE.out.be
    have hsz := hb.size
    by_cases hlt : k < l.length
    · obtain ⟨⟨f, t, T⟩, hr⟩ : ∃ r, l[k]? = some r := ⟨l[k], List.getElem?_eq_getElem hlt⟩
      obtain ⟨g, off, rfl, q0, q1, q2⟩ := HC.out k _ hr
      have c0 := cell_later7 hb (Nat.le_refl _) q0
      have c1 := cell_later7 hb (Nat.le_refl _) q1
      have c2 := cell_later7 hb (Nat.le_refl _) q2
      simp only at c0 c1 c2
      have HR := Hid.mk7 hr
      have hTT : T.length ≤ inS (l.take (k + 1)) - inS (l.take k) := by rw [inS_take hr]; simp
      have hTI := inS_take_le l (k + 1)
      have hT1 : T.length ≤ 100000 := by omega
      have ht1 : txt.length ≤ 100000 := by omega
      have RC := Rc.new wr (.int .i64 f) (.int .i64 t) (.string (cacc T))
      have HEO := Hid.mk7 (HE.out.eo.alloc (.cells #[.int .i64 f, .int .i64 t, .string (cacc T)] 56))
      have HTO := Hid.mk7 (HE.out.tw.alloc (.cells #[.int .i64 f, .int .i64 t, .string (cacc T)] 56))
      have HNE : Hid (∀ j, u5.ownBlock = some j → j ≠ wr.heap.size) := fun j hj => by have := (HE.out.eo.lt hj).2; omega
      have HNT : Hid (∀ j, u6.ownBlock = some j → j ≠ wr.heap.size) := fun j hj => by have := (HE.out.tw.lt hj).2; omega
      have HBX := Hid.mk7 (hb.alloc hsz (.cells #[.int .i64 f, .int .i64 t, .string (cacc T)] 56))
      have hcs : (cacc T).size = T.length := cacc_size T
      have HCT : Hid ((cacc T).data.toList = T) := rfl
      clear q0 q1 q2 hr hTT
      generalize hs : cacc T = s at *
      have HRC := Hid.mk7 RC
      have HSC := Hid.mk7 hs
      clear RC hs
      by_cases hskip : f = t ∧ T = []
      · obtain ⟨rfl, hT0⟩ := hskip
        have hs0 : s.size = 0 := by rw [hcs, hT0]; rfl
        have HEX : Hid (Em base l w w.heap.size (wr.alloc (.cells #[.int .i64 f, .int .i64 f, .string s] 56)) (k + 1) u5 u6 acc txt en) := by
          have hr := HR.out
          rw [hT0] at hr
          refine ⟨HEO.out, HTO.out, HE.out.ap, by omega, ?_, by rw [HE.out.eq, elG_skip hr], HBX.out⟩
          rw [inS_take hr]
          have := HE.out.tl
          simp only [List.length_nil]; omega
        clear HE HEO HTO HNE HNT HBX HRC hcs HCT HSC
        obtain rfl := eq_of_size hs0
        clear hs0
        go_wp2
        go_roundw
        case rel => exact ⟨k + 1, acc, txt, en, by omega, by go_num, rfl, HEX⟩
        case measure => simp [intOf]; omega
      · have hfts : (f = t ∧ ¬ s.toList.isEmpty = true) ∨ f ≠ t := by
          by_cases hft : f = t
          · left
            refine ⟨hft, ?_⟩
            have : s.size ≠ 0 := by rw [hcs]; exact fun e => hskip ⟨hft, List.eq_nil_of_length_eq_zero e⟩
            have := (size_of_ne this).1
            rw [this]; simp
          · exact Or.inr hft
        have HNS := Hid.mk7 hskip
        clear hskip
        by_cases hen : en < f
        · have HQ := Hid.mk7 (elG_copy (base := base) (txt := txt) HR.out HNS.out hen)
          have den : decide (en < f) = true := decide_eq_true hen
          rcases hfts with ⟨hft, hse⟩ | hft
          · subst hft
            have hse2 : s.toList.isEmpty = false := by simpa using hse
            have hse3 : ¬ s.toList = [] := by simpa using hse
            clear hse
            have hzz : w.heap.size ≤ wr.heap.size := hsz
            obtain ⟨ac2, HA2⟩ : ∃ x, Hid (acc ++ tx txt = x) := ⟨_, rfl⟩
            have hEL : ac2.length ≤ 2 * k + 1 := by
              rw [← HA2.out, List.length_append]
              have : (tx txt).length ≤ 1 := by unfold tx; split <;> simp
              omega
            go_upto_region 9 with fail
            generalize hz : wr.heap.size = z at *
            generalize wr.alloc (.cells #[.int .i64 f, .int .i64 f, .string s] 56) = W at *
            have c9 := HRC.out.c0
            go_cut [5] from 30 to 38 (fun s5 wx => Hid (OwnE wx w.heap.size s5 (ac2 ++ [(en, f, [])])) ∧ Hid (OwnB wx w.heap.size u6 txt) ∧ Hid (Rc wx z (.int .i64 f) (.int .i64 f) (.string s)) ∧ Hid (∀ j, s5.ownBlock = some j → u6.ownBlock ≠ some j) ∧ Hid (RowKit.Below w.heap.size w wx))
            case first =>
              refine wp_region_turns (fun w' => ∃ x0 : (GW (fun W => W.cell? ⟨z, 0, none⟩ = some (.int .i64 f))), w' = x0.w) [0, 1, 3, 4, 5] 9 5 (by kernel_rfl) (by kernel_rfl) (fun d => ⟨⟨redrawn W d, c9⟩, rfl⟩) ?_
              intro d
              have k0 : ∀ x0 : (GW (fun W => W.cell? ⟨z, 0, none⟩ = some (.int .i64 f))), x0.w.cell? ⟨z, 0, none⟩ = some (.int .i64 f) := fun x0 => x0.h
              simp only [pickAll, pickAt, List.nil_append, List.cons_append, List.append_nil]
              have hne : Nonempty (GW (fun W => W.cell? ⟨z, 0, none⟩ = some (.int .i64 f))) := ⟨⟨W, c9⟩⟩
              clear c0 c1 c2
              repeat (go_big_quiet_step (fail))
              refine wpQuiet_nil ?_
              clear hne k0 c9
              have bd := below_redrawnE W d
              have E0 := Hid.mk7 (HEO.out.later bd)
              have T0 := Hid.mk7 (HTO.out.later bd)
              have R0 := Hid.mk7 (HRC.out.later bd)
              have B0 := Hid.mk7 (HBX.out.trans (bd.mono HBX.out.size))
              have hNE := HNE.out
              generalize redrawn W d = W0 at *
              refine anyC_pick2 2 6 (by kernel_rfl) (by kernel_rfl) (by kernel_rfl) ?_ ?_
              · simp only [pickAll, pickAt, List.nil_append, List.cons_append, List.append_nil]
                go_wp2_with fail
                refine (addText_any w.heap.size w.heap.size u5 u6 acc txt W0 B0.out.size (by omega) (by omega) E0.out T0.out).mono ?_
                rintro e w1 ⟨v1, rfl, o1, g1, l1⟩
                rw [HA2.out] at o1
                have E1 := Hid.mk7 (o1.alloc (.cells #[.int .i64 en, .int .i64 f, .string ⟨#[]⟩] 70))
                have T1 := Hid.mk7 ((T0.out.kept g1 (by
                  rcases e : u6.ownBlock with _ | j
                  · exact Or.inl rfl
                  · exact Or.inr fun h => HE.out.ap j h.symm e)).alloc (.cells #[.int .i64 en, .int .i64 f, .string ⟨#[]⟩] 70))
                have R1 := Hid.mk7 (R0.out.grown g1 (fun h => hNE z h.symm rfl))
                have R1' := Hid.mk7 (R1.out.alloc (.cells #[.int .i64 en, .int .i64 f, .string ⟨#[]⟩] 70))
                have B1 := Hid.mk7 (B0.out.grown g1 B0.out.size (fun j hj => (E0.out.lt hj).1))
                have B1' := Hid.mk7 (B1.out.alloc B1.out.size (.cells #[.int .i64 en, .int .i64 f, .string ⟨#[]⟩] 70))
                have L1 := Hid.mk7 l1
                have S1 := Hid.mk7 g1.size
                have RE := Hid.mk7 (Re.new w1 (.int .i64 en) (.int .i64 f) (.string ⟨#[]⟩))
                clear o1 g1 l1 bd
                go_wp2
                refine anyNext_mk ⟨⟨_, R1.out.c0⟩, rfl⟩ ?_
                refine anyC_pick1 6 (by kernel_rfl) (by kernel_rfl) ?_
                simp only [pickAll, pickAt, List.nil_append, List.cons_append, List.append_nil]
                go_wp2
                refine anyNext_mk ⟨⟨_, R1.out.c0⟩, rfl⟩ ?_
                refine anyC_pick1 7 (by kernel_rfl) (by kernel_rfl) ?_
                simp only [pickAll, pickAt, List.nil_append, List.cons_append, List.append_nil]
                go_wp2
                refine anyNext_mk ⟨⟨_, R1'.out.c0⟩, rfl⟩ ?_
                refine anyC_pick1 8 (by kernel_rfl) (by kernel_rfl) ?_
                simp only [pickAll, pickAt, List.nil_append, List.cons_append, List.append_nil]
                go_wp2_with (at_builtin; refine wpList_append_lies _ rfl _ _ 22 rfl w.heap.size 70 i0 (.agg #[.int .i64 0, .int .i64 0, .string ⟨#[]⟩]) 3 32 Tryd.underlying22 HI.out hz0 hz1 hz2 rfl (by decide) _ _ _ rfl E1.out ⟨_, 0, none⟩ 1 1 [.int .i64 en, .int .i64 f, .string ⟨#[]⟩] rfl rfl (World.news_of_block RE.out) (fun u hu => by simp at hu; rcases hu with rfl | rfl | rfl <;> rfl) (by omega) (by unfold maxLen; omega) (by omega) B1'.out.size _ rfl ?_)
                intro gg cap2 w3 hown hgrow hat hlt
                have E3 : Hid (OwnE w3 w.heap.size (.slice (some ⟨gg, 0, none⟩) (ac2.length + 1) cap2) (ac2 ++ [(en, f, [])])) := by
                  unfold OwnE
                  rw [List.length_append, c3_append, c3_one]
                  exact hown
                have T3 := Hid.mk7 (T1.out.kept hgrow (by
                  rcases e : u6.ownBlock with _ | j
                  · exact Or.inl rfl
                  · right
                    intro h
                    rcases L1.out j h.symm with h2 | h2
                    · exact HE.out.ap j h2 e
                    · have := (T0.out.lt e).2; omega))
                have R3 := Hid.mk7 (R1'.out.grown hgrow (by
                  intro h
                  rcases L1.out z h.symm with h2 | h2
                  · exact hNE z h2 rfl
                  · have := R0.out.lt; omega))
                have B3 := Hid.mk7 (B1'.out.grown hgrow B1'.out.size (fun j hj => (E1.out.lt hj).1))
                have A3 : Hid (∀ j, (Value.slice (some ⟨gg, 0, none⟩) (ac2.length + 1) cap2).ownBlock = some j → u6.ownBlock ≠ some j) := by
                  intro j hj e
                  obtain rfl : gg = j := Option.some.inj hj
                  have h5 := (T0.out.lt e).2
                  rcases hat with h | h
                  · rcases L1.out gg h with h2 | h2
                    · exact HE.out.ap gg h2 e
                    · omega
                  · have h6 := S1.out
                    try simp at h
                    omega
                clear hown hgrow hat hlt E1 T1 R1 R1' B1 B1' L1 S1 RE
                go_wp2
                refine anyNext_mk ⟨⟨_, R3.out.c0⟩, rfl⟩ ?_
                refine anyC_pick1 9 (by kernel_rfl) (by kernel_rfl) ?_
                simp only [pickAll, pickAt, List.nil_append, List.cons_append, List.append_nil]
                go_wp2
                refine anyNext_last (anyC_done (by kernel_rfl) ?_)
                go_wp2
                go_meet
                exact ⟨E3, T3, R3, A3, B3⟩
              · simp only [pickAll, pickAt, List.nil_append, List.cons_append, List.append_nil]
                go_wp2
                refine anyNext_mk ⟨⟨_, R0.out.c0⟩, rfl⟩ ?_
                refine anyC_pick2 2 7 (by kernel_rfl) (by kernel_rfl) (by kernel_rfl) ?_ ?_
                · simp only [pickAll, pickAt, List.nil_append, List.cons_append, List.append_nil]
                  go_wp2_with fail
                  refine (addText_any w.heap.size w.heap.size u5 u6 acc txt W0 B0.out.size (by omega) (by omega) E0.out T0.out).mono ?_
                  rintro e w1 ⟨v1, rfl, o1, g1, l1⟩
                  rw [HA2.out] at o1
                  have E1 := Hid.mk7 (o1.alloc (.cells #[.int .i64 en, .int .i64 f, .string ⟨#[]⟩] 70))
                  have T1 := Hid.mk7 ((T0.out.kept g1 (by
                    rcases e : u6.ownBlock with _ | j
                    · exact Or.inl rfl
                    · exact Or.inr fun h => HE.out.ap j h.symm e)).alloc (.cells #[.int .i64 en, .int .i64 f, .string ⟨#[]⟩] 70))
                  have R1 := Hid.mk7 (R0.out.grown g1 (fun h => hNE z h.symm rfl))
                  have R1' := Hid.mk7 (R1.out.alloc (.cells #[.int .i64 en, .int .i64 f, .string ⟨#[]⟩] 70))
                  have B1 := Hid.mk7 (B0.out.grown g1 B0.out.size (fun j hj => (E0.out.lt hj).1))
                  have B1' := Hid.mk7 (B1.out.alloc B1.out.size (.cells #[.int .i64 en, .int .i64 f, .string ⟨#[]⟩] 70))
                  have L1 := Hid.mk7 l1
                  have S1 := Hid.mk7 g1.size
                  have RE := Hid.mk7 (Re.new w1 (.int .i64 en) (.int .i64 f) (.string ⟨#[]⟩))
                  clear o1 g1 l1 bd
                  go_wp2
                  refine anyNext_mk ⟨⟨_, R1.out.c0⟩, rfl⟩ ?_
                  refine anyC_pick1 7 (by kernel_rfl) (by kernel_rfl) ?_
                  simp only [pickAll, pickAt, List.nil_append, List.cons_append, List.append_nil]
                  go_wp2
                  refine anyNext_mk ⟨⟨_, R1'.out.c0⟩, rfl⟩ ?_
                  refine anyC_pick1 8 (by kernel_rfl) (by kernel_rfl) ?_
                  simp only [pickAll, pickAt, List.nil_append, List.cons_append, List.append_nil]
                  go_wp2_with (at_builtin; refine wpList_append_lies _ rfl _ _ 22 rfl w.heap.size 70 i0 (.agg #[.int .i64 0, .int .i64 0, .string ⟨#[]⟩]) 3 32 Tryd.underlying22 HI.out hz0 hz1 hz2 rfl (by decide) _ _ _ rfl E1.out ⟨_, 0, none⟩ 1 1 [.int .i64 en, .int .i64 f, .string ⟨#[]⟩] rfl rfl (World.news_of_block RE.out) (fun u hu => by simp at hu; rcases hu with rfl | rfl | rfl <;> rfl) (by omega) (by unfold maxLen; omega) (by omega) B1'.out.size _ rfl ?_)
                  intro gg cap2 w3 hown hgrow hat hlt
                  have E3 : Hid (OwnE w3 w.heap.size (.slice (some ⟨gg, 0, none⟩) (ac2.length + 1) cap2) (ac2 ++ [(en, f, [])])) := by
                    unfold OwnE
                    rw [List.length_append, c3_append, c3_one]
                    exact hown
                  have T3 := Hid.mk7 (T1.out.kept hgrow (by
                    rcases e : u6.ownBlock with _ | j
                    · exact Or.inl rfl
                    · right
                      intro h
                      rcases L1.out j h.symm with h2 | h2
                      · exact HE.out.ap j h2 e
                      · have := (T0.out.lt e).2; omega))
                  have R3 := Hid.mk7 (R1'.out.grown hgrow (by
                    intro h
                    rcases L1.out z h.symm with h2 | h2
                    · exact hNE z h2 rfl
                    · have := R0.out.lt; omega))
                  have B3 := Hid.mk7 (B1'.out.grown hgrow B1'.out.size (fun j hj => (E1.out.lt hj).1))
                  have A3 : Hid (∀ j, (Value.slice (some ⟨gg, 0, none⟩) (ac2.length + 1) cap2).ownBlock = some j → u6.ownBlock ≠ some j) := by
                    intro j hj e
                    obtain rfl : gg = j := Option.some.inj hj
                    have h5 := (T0.out.lt e).2
                    rcases hat with h | h
                    · rcases L1.out gg h with h2 | h2
                      · exact HE.out.ap gg h2 e
                      · omega
                    · have h6 := S1.out
                      try simp at h
                      omega
                  clear hown hgrow hat hlt E1 T1 R1 R1' B1 B1' L1 S1 RE
                  go_wp2
                  refine anyNext_mk ⟨⟨_, R3.out.c0⟩, rfl⟩ ?_
                  refine anyC_pick1 9 (by kernel_rfl) (by kernel_rfl) ?_
                  simp only [pickAll, pickAt, List.nil_append, List.cons_append, List.append_nil]
                  go_wp2
                  refine anyNext_last (anyC_done (by kernel_rfl) ?_)
                  go_wp2
                  go_meet
                  exact ⟨E3, T3, R3, A3, B3⟩
                · simp only [pickAll, pickAt, List.nil_append, List.cons_append, List.append_nil]
                  go_wp2
                  have RE0 := Hid.mk7 (Re.new W0 (.int .i64 en) (.int .i64 f) (.string ⟨#[]⟩))
                  have E1 := Hid.mk7 (E0.out.alloc (.cells #[.int .i64 en, .int .i64 f, .string ⟨#[]⟩] 70))
                  have T1 := Hid.mk7 (T0.out.alloc (.cells #[.int .i64 en, .int .i64 f, .string ⟨#[]⟩] 70))
                  have R1 := Hid.mk7 (R0.out.alloc (.cells #[.int .i64 en, .int .i64 f, .string ⟨#[]⟩] 70))
                  have B1 := Hid.mk7 (B0.out.alloc B0.out.size (.cells #[.int .i64 en, .int .i64 f, .string ⟨#[]⟩] 70))
                  refine anyNext_mk ⟨⟨_, R1.out.c0⟩, rfl⟩ ?_
                  refine anyC_pick1 2 (by kernel_rfl) (by kernel_rfl) ?_
                  simp only [pickAll, pickAt, List.nil_append, List.cons_append, List.append_nil]
                  have hNB : ∀ j, u5.ownBlock = some j → j ≠ W0.heap.size := fun j hj => by have := (E0.out.lt hj).2; omega
                  have hbz : W0.heap.size < (W0.alloc (.cells #[.int .i64 en, .int .i64 f, .string ⟨#[]⟩] 70)).heap.size := by simp
                  generalize W0.heap.size = bb at *
                  generalize W0.alloc (.cells #[.int .i64 en, .int .i64 f, .string ⟨#[]⟩] 70) = W1 at *
                  clear E0 T0 R0 B0 bd
                  go_wp2_with fail
                  refine (addText_any w.heap.size w.heap.size u5 u6 acc txt W1 B1.out.size (by omega) (by omega) E1.out T1.out).mono ?_
                  rintro e w2 ⟨v1, rfl, o1, g1, l1⟩
                  rw [HA2.out] at o1
                  have E2 := Hid.mk7 o1
                  have T2 := Hid.mk7 (T1.out.kept g1 (by
                    rcases e : u6.ownBlock with _ | j
                    · exact Or.inl rfl
                    · exact Or.inr fun h => HE.out.ap j h.symm e))
                  have R2 := Hid.mk7 (R1.out.grown g1 (fun h => hNE z h.symm rfl))
                  have B2 := Hid.mk7 (B1.out.grown g1 B1.out.size (fun j hj => (E1.out.lt hj).1))
                  have L1 := Hid.mk7 l1
                  have S1 := Hid.mk7 g1.size
                  have RE : Hid (Re w2 bb (.int .i64 en) (.int .i64 f) (.string ⟨#[]⟩)) := (g1.block bb hbz (fun h => hNB bb h.symm rfl)).trans RE0.out
                  clear o1 g1 l1 RE0
                  go_wp2
                  refine anyNext_mk ⟨⟨_, R2.out.c0⟩, rfl⟩ ?_
                  refine anyC_pick1 8 (by kernel_rfl) (by kernel_rfl) ?_
                  simp only [pickAll, pickAt, List.nil_append, List.cons_append, List.append_nil]
                  go_wp2_with (at_builtin; refine wpList_append_lies _ rfl _ _ 22 rfl w.heap.size 70 i0 (.agg #[.int .i64 0, .int .i64 0, .string ⟨#[]⟩]) 3 32 Tryd.underlying22 HI.out hz0 hz1 hz2 rfl (by decide) _ _ _ rfl E2.out ⟨_, 0, none⟩ 1 1 [.int .i64 en, .int .i64 f, .string ⟨#[]⟩] rfl rfl (World.news_of_block RE.out) (fun u hu => by simp at hu; rcases hu with rfl | rfl | rfl <;> rfl) (by omega) (by unfold maxLen; omega) (by omega) B2.out.size _ rfl ?_)
                  intro gg cap2 w3 hown hgrow hat hlt
                  have E3 : Hid (OwnE w3 w.heap.size (.slice (some ⟨gg, 0, none⟩) (ac2.length + 1) cap2) (ac2 ++ [(en, f, [])])) := by
                    unfold OwnE
                    rw [List.length_append, c3_append, c3_one]
                    exact hown
                  have T3 := Hid.mk7 (T2.out.kept hgrow (by
                    rcases e : u6.ownBlock with _ | j
                    · exact Or.inl rfl
                    · right
                      intro h
                      rcases L1.out j h.symm with h2 | h2
                      · exact HE.out.ap j h2 e
                      · have := (T1.out.lt e).2; omega))
                  have R3 := Hid.mk7 (R2.out.grown hgrow (by
                    intro h
                    rcases L1.out z h.symm with h2 | h2
                    · exact hNE z h2 rfl
                    · have := R1.out.lt; omega))
                  have B3 := Hid.mk7 (B2.out.grown hgrow B2.out.size (fun j hj => (E2.out.lt hj).1))
                  have A3 : Hid (∀ j, (Value.slice (some ⟨gg, 0, none⟩) (ac2.length + 1) cap2).ownBlock = some j → u6.ownBlock ≠ some j) := by
                    intro j hj e
                    obtain rfl : gg = j := Option.some.inj hj
                    have h5 := (T1.out.lt e).2
                    rcases hat with h | h
                    · rcases L1.out gg h with h2 | h2
                      · exact HE.out.ap gg h2 e
                      · omega
                    · have h6 := S1.out
                      omega
                  clear hown hgrow hat hlt E1 T1 R1 B1 E2 T2 R2 B2 L1 S1 RE
                  go_wp2
                  refine anyNext_mk ⟨⟨_, R3.out.c0⟩, rfl⟩ ?_
                  refine anyC_pick1 9 (by kernel_rfl) (by kernel_rfl) ?_
                  simp only [pickAll, pickAt, List.nil_append, List.cons_append, List.append_nil]
                  go_wp2
                  refine anyNext_last (anyC_done (by kernel_rfl) ?_)
                  go_wp2
                  go_meet
                  exact ⟨E3, T3, R3, A3, B3⟩
            case rest =>
              obtain ⟨E3, T3, R3, A3, B3⟩ := hcut
              have HNZ : Hid (u6.ownBlock ≠ some z) := fun h => HNT.out z h rfl
              clear c9 HEO HTO HNE HNT HBX HRC c0 c1 c2
              obtain ⟨ta, tcap, rfl, htc, htg⟩ := T3.out.shape
              obtain ⟨hrs, hrb⟩ := reset_value T3.out
              have T4 := Hid.mk7 hrs
              have HRB := Hid.mk7 hrb
              have r0 := R3.out.c0
              have r1 := R3.out.c1
              have r2 := R3.out.c2
              clear hrs hrb htg
              go_wp2_with (at_builtin; refine wpList_append_text8 rfl _ _ rfl w.heap.size _ [] rfl T4.out s rfl (by simp only [List.length_nil]; omega) B3.out.size ?_)
              intro tv2 w4 hown2 hgrow2 hlie2
              have HT2 : Hid (OwnB w4 w.heap.size tv2 ([] ++ T)) := by rw [← HCT.out]; exact hown2
              have HE2 : Hid (OwnE w4 w.heap.size u5 (ac2 ++ [(en, f, [])])) := E3.out.kept hgrow2 (by
                rcases e : u5.ownBlock with _ | j
                · exact Or.inl rfl
                · exact Or.inr (fun h => A3.out j e (by rw [← HRB.out]; exact h.symm)))
              have HR2 := Hid.mk7 (R3.out.grown hgrow2 (fun h => HNZ.out (by rw [← HRB.out]; exact h.symm)))
              have HB2 : Hid (RowKit.Below w.heap.size w w4) := B3.out.grown hgrow2 B3.out.size (fun j hj => (T4.out.lt hj).1)
              have HAP : Hid (∀ j, u5.ownBlock = some j → tv2.ownBlock ≠ some j) := by
                intro j hj h
                rcases hlie2 with h1 | h1 | h1
                · exact A3.out j hj (by rw [← HRB.out]; exact h1.symm.trans h)
                · have h2 := (E3.out.lt hj).2
                  rw [h1] at h
                  simp at h
                  omega
                · rw [h1] at h; cases h
              have HEX : Hid (Em base l w w.heap.size w4 (k + 1) u5 tv2 (ac2 ++ [(en, f, [])]) T f) := by
                refine ⟨HE2.out, HT2.out, HAP.out, ?_, ?_, ?_, HB2.out⟩
                · rw [List.length_append]; simp only [List.length_cons, List.length_nil]; omega
                · rw [inS_take HR.out]; simp only; omega
                · rw [HE.out.eq, HQ.out, ← HA2.out]; simp
              have d1 := HR2.out.c1
              clear HE HCT HSC hown2 hgrow2 hlie2 HT2 HE2 HB2 HAP r0 r1 r2 E3 T3 T4 R3 A3 B3
              go_wp2
              go_roundw
              case rel => exact ⟨k + 1, _, _, f, by omega, by go_num, rfl, HEX⟩
              case measure => simp [intOf]; omega
          · have e1 : (f == t) = false := by simpa using hft
            have e2 : decide (f = t) = false := by simpa using hft
            have hzz : w.heap.size ≤ wr.heap.size := hsz
            obtain ⟨ac2, HA2⟩ : ∃ x, Hid (acc ++ tx txt = x) := ⟨_, rfl⟩
            have hEL : ac2.length ≤ 2 * k + 1 := by
              rw [← HA2.out, List.length_append]
              have : (tx txt).length ≤ 1 := by unfold tx; split <;> simp
              omega
            go_upto_region 9 with fail
            generalize hz : wr.heap.size = z at *
            generalize wr.alloc (.cells #[.int .i64 f, .int .i64 t, .string s] 56) = W at *
            have c9 := HRC.out.c0
            go_cut [5] from 30 to 38 (fun s5 wx => Hid (OwnE wx w.heap.size s5 (ac2 ++ [(en, f, [])])) ∧ Hid (OwnB wx w.heap.size u6 txt) ∧ Hid (Rc wx z (.int .i64 f) (.int .i64 t) (.string s)) ∧ Hid (∀ j, s5.ownBlock = some j → u6.ownBlock ≠ some j) ∧ Hid (RowKit.Below w.heap.size w wx))
            case first =>
              refine wp_region_turns (fun w' => ∃ x0 : (GW (fun W => W.cell? ⟨z, 0, none⟩ = some (.int .i64 f))), w' = x0.w) [0, 1, 3, 4, 5] 9 5 (by kernel_rfl) (by kernel_rfl) (fun d => ⟨⟨redrawn W d, c9⟩, rfl⟩) ?_
              intro d
              have k0 : ∀ x0 : (GW (fun W => W.cell? ⟨z, 0, none⟩ = some (.int .i64 f))), x0.w.cell? ⟨z, 0, none⟩ = some (.int .i64 f) := fun x0 => x0.h
              simp only [pickAll, pickAt, List.nil_append, List.cons_append, List.append_nil]
              have hne : Nonempty (GW (fun W => W.cell? ⟨z, 0, none⟩ = some (.int .i64 f))) := ⟨⟨W, c9⟩⟩
              clear c0 c1 c2
              repeat (go_big_quiet_step (fail))
              refine wpQuiet_nil ?_
              clear hne k0 c9
              have bd := below_redrawnE W d
              have E0 := Hid.mk7 (HEO.out.later bd)
              have T0 := Hid.mk7 (HTO.out.later bd)
              have R0 := Hid.mk7 (HRC.out.later bd)
              have B0 := Hid.mk7 (HBX.out.trans (bd.mono HBX.out.size))
              have hNE := HNE.out
              generalize redrawn W d = W0 at *
              refine anyC_pick2 2 6 (by kernel_rfl) (by kernel_rfl) (by kernel_rfl) ?_ ?_
              · simp only [pickAll, pickAt, List.nil_append, List.cons_append, List.append_nil]
                go_wp2_with fail
                refine (addText_any w.heap.size w.heap.size u5 u6 acc txt W0 B0.out.size (by omega) (by omega) E0.out T0.out).mono ?_
                rintro e w1 ⟨v1, rfl, o1, g1, l1⟩
                rw [HA2.out] at o1
                have E1 := Hid.mk7 (o1.alloc (.cells #[.int .i64 en, .int .i64 f, .string ⟨#[]⟩] 70))
                have T1 := Hid.mk7 ((T0.out.kept g1 (by
                  rcases e : u6.ownBlock with _ | j
                  · exact Or.inl rfl
                  · exact Or.inr fun h => HE.out.ap j h.symm e)).alloc (.cells #[.int .i64 en, .int .i64 f, .string ⟨#[]⟩] 70))
                have R1 := Hid.mk7 (R0.out.grown g1 (fun h => hNE z h.symm rfl))
                have R1' := Hid.mk7 (R1.out.alloc (.cells #[.int .i64 en, .int .i64 f, .string ⟨#[]⟩] 70))
                have B1 := Hid.mk7 (B0.out.grown g1 B0.out.size (fun j hj => (E0.out.lt hj).1))
                have B1' := Hid.mk7 (B1.out.alloc B1.out.size (.cells #[.int .i64 en, .int .i64 f, .string ⟨#[]⟩] 70))
                have L1 := Hid.mk7 l1
                have S1 := Hid.mk7 g1.size
                have RE := Hid.mk7 (Re.new w1 (.int .i64 en) (.int .i64 f) (.string ⟨#[]⟩))
                clear o1 g1 l1 bd
                go_wp2
                refine anyNext_mk ⟨⟨_, R1.out.c0⟩, rfl⟩ ?_
                refine anyC_pick1 6 (by kernel_rfl) (by kernel_rfl) ?_
                simp only [pickAll, pickAt, List.nil_append, List.cons_append, List.append_nil]
                go_wp2
                refine anyNext_mk ⟨⟨_, R1.out.c0⟩, rfl⟩ ?_
                refine anyC_pick1 7 (by kernel_rfl) (by kernel_rfl) ?_
                simp only [pickAll, pickAt, List.nil_append, List.cons_append, List.append_nil]
                go_wp2
                refine anyNext_mk ⟨⟨_, R1'.out.c0⟩, rfl⟩ ?_
                refine anyC_pick1 8 (by kernel_rfl) (by kernel_rfl) ?_
                simp only [pickAll, pickAt, List.nil_append, List.cons_append, List.append_nil]
                go_wp2_with (at_builtin; refine wpList_append_lies _ rfl _ _ 22 rfl w.heap.size 70 i0 (.agg #[.int .i64 0, .int .i64 0, .string ⟨#[]⟩]) 3 32 Tryd.underlying22 HI.out hz0 hz1 hz2 rfl (by decide) _ _ _ rfl E1.out ⟨_, 0, none⟩ 1 1 [.int .i64 en, .int .i64 f, .string ⟨#[]⟩] rfl rfl (World.news_of_block RE.out) (fun u hu => by simp at hu; rcases hu with rfl | rfl | rfl <;> rfl) (by omega) (by unfold maxLen; omega) (by omega) B1'.out.size _ rfl ?_)
                intro gg cap2 w3 hown hgrow hat hlt
                have E3 : Hid (OwnE w3 w.heap.size (.slice (some ⟨gg, 0, none⟩) (ac2.length + 1) cap2) (ac2 ++ [(en, f, [])])) := by
                  unfold OwnE
                  rw [List.length_append, c3_append, c3_one]
                  exact hown
                have T3 := Hid.mk7 (T1.out.kept hgrow (by
                  rcases e : u6.ownBlock with _ | j
                  · exact Or.inl rfl
                  · right
                    intro h
                    rcases L1.out j h.symm with h2 | h2
                    · exact HE.out.ap j h2 e
                    · have := (T0.out.lt e).2; omega))
                have R3 := Hid.mk7 (R1'.out.grown hgrow (by
                  intro h
                  rcases L1.out z h.symm with h2 | h2
                  · exact hNE z h2 rfl
                  · have := R0.out.lt; omega))
                have B3 := Hid.mk7 (B1'.out.grown hgrow B1'.out.size (fun j hj => (E1.out.lt hj).1))
                have A3 : Hid (∀ j, (Value.slice (some ⟨gg, 0, none⟩) (ac2.length + 1) cap2).ownBlock = some j → u6.ownBlock ≠ some j) := by
                  intro j hj e
                  obtain rfl : gg = j := Option.some.inj hj
                  have h5 := (T0.out.lt e).2
                  rcases hat with h | h
                  · rcases L1.out gg h with h2 | h2
                    · exact HE.out.ap gg h2 e
                    · omega
                  · have h6 := S1.out
                    try simp at h
                    omega
                clear hown hgrow hat hlt E1 T1 R1 R1' B1 B1' L1 S1 RE
                go_wp2
                refine anyNext_mk ⟨⟨_, R3.out.c0⟩, rfl⟩ ?_
                refine anyC_pick1 9 (by kernel_rfl) (by kernel_rfl) ?_
                simp only [pickAll, pickAt, List.nil_append, List.cons_append, List.append_nil]
                go_wp2
                refine anyNext_last (anyC_done (by kernel_rfl) ?_)
                go_wp2
                go_meet
                exact ⟨E3, T3, R3, A3, B3⟩
              · simp only [pickAll, pickAt, List.nil_append, List.cons_append, List.append_nil]
                go_wp2
                refine anyNext_mk ⟨⟨_, R0.out.c0⟩, rfl⟩ ?_
                refine anyC_pick2 2 7 (by kernel_rfl) (by kernel_rfl) (by kernel_rfl) ?_ ?_
                · simp only [pickAll, pickAt, List.nil_append, List.cons_append, List.append_nil]
                  go_wp2_with fail
                  refine (addText_any w.heap.size w.heap.size u5 u6 acc txt W0 B0.out.size (by omega) (by omega) E0.out T0.out).mono ?_
                  rintro e w1 ⟨v1, rfl, o1, g1, l1⟩
                  rw [HA2.out] at o1
                  have E1 := Hid.mk7 (o1.alloc (.cells #[.int .i64 en, .int .i64 f, .string ⟨#[]⟩] 70))
                  have T1 := Hid.mk7 ((T0.out.kept g1 (by
                    rcases e : u6.ownBlock with _ | j
                    · exact Or.inl rfl
                    · exact Or.inr fun h => HE.out.ap j h.symm e)).alloc (.cells #[.int .i64 en, .int .i64 f, .string ⟨#[]⟩] 70))
                  have R1 := Hid.mk7 (R0.out.grown g1 (fun h => hNE z h.symm rfl))
                  have R1' := Hid.mk7 (R1.out.alloc (.cells #[.int .i64 en, .int .i64 f, .string ⟨#[]⟩] 70))
                  have B1 := Hid.mk7 (B0.out.grown g1 B0.out.size (fun j hj => (E0.out.lt hj).1))
                  have B1' := Hid.mk7 (B1.out.alloc B1.out.size (.cells #[.int .i64 en, .int .i64 f, .string ⟨#[]⟩] 70))
                  have L1 := Hid.mk7 l1
                  have S1 := Hid.mk7 g1.size
                  have RE := Hid.mk7 (Re.new w1 (.int .i64 en) (.int .i64 f) (.string ⟨#[]⟩))
                  clear o1 g1 l1 bd
                  go_wp2
                  refine anyNext_mk ⟨⟨_, R1.out.c0⟩, rfl⟩ ?_
                  refine anyC_pick1 7 (by kernel_rfl) (by kernel_rfl) ?_
                  simp only [pickAll, pickAt, List.nil_append, List.cons_append, List.append_nil]
                  go_wp2
                  refine anyNext_mk ⟨⟨_, R1'.out.c0⟩, rfl⟩ ?_
                  refine anyC_pick1 8 (by kernel_rfl) (by kernel_rfl) ?_
                  simp only [pickAll, pickAt, List.nil_append, List.cons_append, List.append_nil]
                  go_wp2_with (at_builtin; refine wpList_append_lies _ rfl _ _ 22 rfl w.heap.size 70 i0 (.agg #[.int .i64 0, .int .i64 0, .string ⟨#[]⟩]) 3 32 Tryd.underlying22 HI.out hz0 hz1 hz2 rfl (by decide) _ _ _ rfl E1.out ⟨_, 0, none⟩ 1 1 [.int .i64 en, .int .i64 f, .string ⟨#[]⟩] rfl rfl (World.news_of_block RE.out) (fun u hu => by simp at hu; rcases hu with rfl | rfl | rfl <;> rfl) (by omega) (by unfold maxLen; omega) (by omega) B1'.out.size _ rfl ?_)
                  intro gg cap2 w3 hown hgrow hat hlt
                  have E3 : Hid (OwnE w3 w.heap.size (.slice (some ⟨gg, 0, none⟩) (ac2.length + 1) cap2) (ac2 ++ [(en, f, [])])) := by
                    unfold OwnE
                    rw [List.length_append, c3_append, c3_one]
                    exact hown
                  have T3 := Hid.mk7 (T1.out.kept hgrow (by
                    rcases e : u6.ownBlock with _ | j
                    · exact Or.inl rfl
                    · right
                      intro h
                      rcases L1.out j h.symm with h2 | h2
                      · exact HE.out.ap j h2 e
                      · have := (T0.out.lt e).2; omega))
                  have R3 := Hid.mk7 (R1'.out.grown hgrow (by
                    intro h
                    rcases L1.out z h.symm with h2 | h2
                    · exact hNE z h2 rfl
                    · have := R0.out.lt; omega))
                  have B3 := Hid.mk7 (B1'.out.grown hgrow B1'.out.size (fun j hj => (E1.out.lt hj).1))
                  have A3 : Hid (∀ j, (Value.slice (some ⟨gg, 0, none⟩) (ac2.length + 1) cap2).ownBlock = some j → u6.ownBlock ≠ some j) := by
                    intro j hj e
                    obtain rfl : gg = j := Option.some.inj hj
                    have h5 := (T0.out.lt e).2
                    rcases hat with h | h
                    · rcases L1.out gg h with h2 | h2
                      · exact HE.out.ap gg h2 e
                      · omega
                    · have h6 := S1.out
                      try simp at h
                      omega
                  clear hown hgrow hat hlt E1 T1 R1 R1' B1 B1' L1 S1 RE
                  go_wp2
                  refine anyNext_mk ⟨⟨_, R3.out.c0⟩, rfl⟩ ?_
                  refine anyC_pick1 9 (by kernel_rfl) (by kernel_rfl) ?_
                  simp only [pickAll, pickAt, List.nil_append, List.cons_append, List.append_nil]
                  go_wp2
                  refine anyNext_last (anyC_done (by kernel_rfl) ?_)
                  go_wp2
                  go_meet
                  exact ⟨E3, T3, R3, A3, B3⟩
                · simp only [pickAll, pickAt, List.nil_append, List.cons_append, List.append_nil]
                  go_wp2
                  have RE0 := Hid.mk7 (Re.new W0 (.int .i64 en) (.int .i64 f) (.string ⟨#[]⟩))
                  have E1 := Hid.mk7 (E0.out.alloc (.cells #[.int .i64 en, .int .i64 f, .string ⟨#[]⟩] 70))
                  have T1 := Hid.mk7 (T0.out.alloc (.cells #[.int .i64 en, .int .i64 f, .string ⟨#[]⟩] 70))
                  have R1 := Hid.mk7 (R0.out.alloc (.cells #[.int .i64 en, .int .i64 f, .string ⟨#[]⟩] 70))
                  have B1 := Hid.mk7 (B0.out.alloc B0.out.size (.cells #[.int .i64 en, .int .i64 f, .string ⟨#[]⟩] 70))
                  refine anyNext_mk ⟨⟨_, R1.out.c0⟩, rfl⟩ ?_
                  refine anyC_pick1 2 (by kernel_rfl) (by kernel_rfl) ?_
                  simp only [pickAll, pickAt, List.nil_append, List.cons_append, List.append_nil]
                  have hNB : ∀ j, u5.ownBlock = some j → j ≠ W0.heap.size := fun j hj => by have := (E0.out.lt hj).2; omega
                  have hbz : W0.heap.size < (W0.alloc (.cells #[.int .i64 en, .int .i64 f, .string ⟨#[]⟩] 70)).heap.size := by simp
                  generalize W0.heap.size = bb at *
                  generalize W0.alloc (.cells #[.int .i64 en, .int .i64 f, .string ⟨#[]⟩] 70) = W1 at *
                  clear E0 T0 R0 B0 bd
                  go_wp2_with fail
                  refine (addText_any w.heap.size w.heap.size u5 u6 acc txt W1 B1.out.size (by omega) (by omega) E1.out T1.out).mono ?_
                  rintro e w2 ⟨v1, rfl, o1, g1, l1⟩
                  rw [HA2.out] at o1
                  have E2 := Hid.mk7 o1
                  have T2 := Hid.mk7 (T1.out.kept g1 (by
                    rcases e : u6.ownBlock with _ | j
                    · exact Or.inl rfl
                    · exact Or.inr fun h => HE.out.ap j h.symm e))
                  have R2 := Hid.mk7 (R1.out.grown g1 (fun h => hNE z h.symm rfl))
                  have B2 := Hid.mk7 (B1.out.grown g1 B1.out.size (fun j hj => (E1.out.lt hj).1))
                  have L1 := Hid.mk7 l1
                  have S1 := Hid.mk7 g1.size
                  have RE : Hid (Re w2 bb (.int .i64 en) (.int .i64 f) (.string ⟨#[]⟩)) := (g1.block bb hbz (fun h => hNB bb h.symm rfl)).trans RE0.out
                  clear o1 g1 l1 RE0
                  go_wp2
                  refine anyNext_mk ⟨⟨_, R2.out.c0⟩, rfl⟩ ?_
                  refine anyC_pick1 8 (by kernel_rfl) (by kernel_rfl) ?_
                  simp only [pickAll, pickAt, List.nil_append, List.cons_append, List.append_nil]
                  go_wp2_with (at_builtin; refine wpList_append_lies _ rfl _ _ 22 rfl w.heap.size 70 i0 (.agg #[.int .i64 0, .int .i64 0, .string ⟨#[]⟩]) 3 32 Tryd.underlying22 HI.out hz0 hz1 hz2 rfl (by decide) _ _ _ rfl E2.out ⟨_, 0, none⟩ 1 1 [.int .i64 en, .int .i64 f, .string ⟨#[]⟩] rfl rfl (World.news_of_block RE.out) (fun u hu => by simp at hu; rcases hu with rfl | rfl | rfl <;> rfl) (by omega) (by unfold maxLen; omega) (by omega) B2.out.size _ rfl ?_)
                  intro gg cap2 w3 hown hgrow hat hlt
                  have E3 : Hid (OwnE w3 w.heap.size (.slice (some ⟨gg, 0, none⟩) (ac2.length + 1) cap2) (ac2 ++ [(en, f, [])])) := by
                    unfold OwnE
                    rw [List.length_append, c3_append, c3_one]
                    exact hown
                  have T3 := Hid.mk7 (T2.out.kept hgrow (by
                    rcases e : u6.ownBlock with _ | j
                    · exact Or.inl rfl
                    · right
                      intro h
                      rcases L1.out j h.symm with h2 | h2
                      · exact HE.out.ap j h2 e
                      · have := (T1.out.lt e).2; omega))
                  have R3 := Hid.mk7 (R2.out.grown hgrow (by
                    intro h
                    rcases L1.out z h.symm with h2 | h2
                    · exact hNE z h2 rfl
                    · have := R1.out.lt; omega))
                  have B3 := Hid.mk7 (B2.out.grown hgrow B2.out.size (fun j hj => (E2.out.lt hj).1))
                  have A3 : Hid (∀ j, (Value.slice (some ⟨gg, 0, none⟩) (ac2.length + 1) cap2).ownBlock = some j → u6.ownBlock ≠ some j) := by
                    intro j hj e
                    obtain rfl : gg = j := Option.some.inj hj
                    have h5 := (T1.out.lt e).2
                    rcases hat with h | h
                    · rcases L1.out gg h with h2 | h2
                      · exact HE.out.ap gg h2 e
                      · omega
                    · have h6 := S1.out
                      omega
                  clear hown hgrow hat hlt E1 T1 R1 B1 E2 T2 R2 B2 L1 S1 RE
                  go_wp2
                  refine anyNext_mk ⟨⟨_, R3.out.c0⟩, rfl⟩ ?_
                  refine anyC_pick1 9 (by kernel_rfl) (by kernel_rfl) ?_
                  simp only [pickAll, pickAt, List.nil_append, List.cons_append, List.append_nil]
                  go_wp2
                  refine anyNext_last (anyC_done (by kernel_rfl) ?_)
                  go_wp2
                  go_meet
                  exact ⟨E3, T3, R3, A3, B3⟩
            case rest =>
              obtain ⟨E3, T3, R3, A3, B3⟩ := hcut
              have HNZ : Hid (u6.ownBlock ≠ some z) := fun h => HNT.out z h rfl
              clear c9 HEO HTO HNE HNT HBX HRC c0 c1 c2
              obtain ⟨ta, tcap, rfl, htc, htg⟩ := T3.out.shape
              obtain ⟨hrs, hrb⟩ := reset_value T3.out
              have T4 := Hid.mk7 hrs
              have HRB := Hid.mk7 hrb
              have r0 := R3.out.c0
              have r1 := R3.out.c1
              have r2 := R3.out.c2
              clear hrs hrb htg
              go_wp2_with (at_builtin; refine wpList_append_text8 rfl _ _ rfl w.heap.size _ [] rfl T4.out s rfl (by simp only [List.length_nil]; omega) B3.out.size ?_)
              intro tv2 w4 hown2 hgrow2 hlie2
              have HT2 : Hid (OwnB w4 w.heap.size tv2 ([] ++ T)) := by rw [← HCT.out]; exact hown2
              have HE2 : Hid (OwnE w4 w.heap.size u5 (ac2 ++ [(en, f, [])])) := E3.out.kept hgrow2 (by
                rcases e : u5.ownBlock with _ | j
                · exact Or.inl rfl
                · exact Or.inr (fun h => A3.out j e (by rw [← HRB.out]; exact h.symm)))
              have HR2 := Hid.mk7 (R3.out.grown hgrow2 (fun h => HNZ.out (by rw [← HRB.out]; exact h.symm)))
              have HB2 : Hid (RowKit.Below w.heap.size w w4) := B3.out.grown hgrow2 B3.out.size (fun j hj => (T4.out.lt hj).1)
              have HAP : Hid (∀ j, u5.ownBlock = some j → tv2.ownBlock ≠ some j) := by
                intro j hj h
                rcases hlie2 with h1 | h1 | h1
                · exact A3.out j hj (by rw [← HRB.out]; exact h1.symm.trans h)
                · have h2 := (E3.out.lt hj).2
                  rw [h1] at h
                  simp at h
                  omega
                · rw [h1] at h; cases h
              have HEX : Hid (Em base l w w.heap.size w4 (k + 1) u5 tv2 (ac2 ++ [(en, f, [])]) T t) := by
                refine ⟨HE2.out, HT2.out, HAP.out, ?_, ?_, ?_, HB2.out⟩
                · rw [List.length_append]; simp only [List.length_cons, List.length_nil]; omega
                · rw [inS_take HR.out]; simp only; omega
                · rw [HE.out.eq, HQ.out, ← HA2.out]; simp
              have d1 := HR2.out.c1
              clear HE HCT HSC hown2 hgrow2 hlie2 HT2 HE2 HB2 HAP r0 r1 r2 E3 T3 T4 R3 A3 B3
              go_wp2
              go_roundw
              case rel => exact ⟨k + 1, _, _, t, by omega, by go_num, rfl, HEX⟩
              case measure => simp [intOf]; omega
        · have HQ := Hid.mk7 (elG_text (base := base) (txt := txt) HR.out HNS.out hen)
          have den : decide (en < f) = false := decide_eq_false hen
          rcases hfts with ⟨hft, hse⟩ | hft
          · subst hft
            have hse2 : s.toList.isEmpty = false := by simpa using hse
            have hse3 : ¬ s.toList = [] := by simpa using hse
            clear hse
            have r0 := HRC.out.c0
            have r1 := HRC.out.c1
            have r2 := HRC.out.c2
            go_wp2_with (at_builtin; refine wpList_append_text8 rfl _ _ rfl w.heap.size _ txt rfl HTO.out s rfl (by omega) HBX.out.size ?_)
            intro tv2 w4 hown2 hgrow2 hlie2
            have HT2 : Hid (OwnB w4 w.heap.size tv2 (txt ++ T)) := by rw [← HCT.out]; exact hown2
            have HE2 : Hid (OwnE w4 w.heap.size u5 acc) := HEO.out.kept hgrow2 (by
              rcases e : u5.ownBlock with _ | j
              · exact Or.inl rfl
              · exact Or.inr (fun h => HE.out.ap j e h.symm))
            have HR2 := Hid.mk7 (HRC.out.grown hgrow2 (fun h => HNT.out _ h.symm rfl))
            have HB2 : Hid (RowKit.Below w.heap.size w w4) := HBX.out.grown hgrow2 HBX.out.size (fun j hj => (HTO.out.lt hj).1)
            have HAP : Hid (∀ j, u5.ownBlock = some j → tv2.ownBlock ≠ some j) := by
              intro j hj h
              rcases hlie2 with h1 | h1 | h1
              · exact HE.out.ap j hj (h1.symm.trans h)
              · have h2 := (HE.out.eo.lt hj).2
                rw [h1] at h
                simp at h
                omega
              · rw [h1] at h; cases h
            have HEX : Hid (Em base l w w.heap.size w4 (k + 1) u5 tv2 acc (txt ++ T) f) := by
              refine ⟨HE2.out, HT2.out, HAP.out, by omega, ?_, by rw [HE.out.eq, HQ.out], HB2.out⟩
              rw [inS_take HR.out, List.length_append]
              have := HE.out.tl
              simp only; omega
            have d1 := HR2.out.c1
            clear HE HEO HTO HNE HNT HBX HRC HCT HSC hown2 hgrow2 hlie2 HT2 HE2 HB2 HAP r0 r1 r2 c0 c1 c2
            go_wp2
            go_roundw
            case rel => exact ⟨k + 1, acc, _, f, by omega, by go_num, rfl, HEX⟩
            case measure => simp [intOf]; omega
          · have e1 : (f == t) = false := by simpa using hft
            have e2 : decide (f = t) = false := by simpa using hft
            have r0 := HRC.out.c0
            have r1 := HRC.out.c1
            have r2 := HRC.out.c2
            go_wp2_with (at_builtin; refine wpList_append_text8 rfl _ _ rfl w.heap.size _ txt rfl HTO.out s rfl (by omega) HBX.out.size ?_)
            intro tv2 w4 hown2 hgrow2 hlie2
            have HT2 : Hid (OwnB w4 w.heap.size tv2 (txt ++ T)) := by rw [← HCT.out]; exact hown2
            have HE2 : Hid (OwnE w4 w.heap.size u5 acc) := HEO.out.kept hgrow2 (by
              rcases e : u5.ownBlock with _ | j
              · exact Or.inl rfl
              · exact Or.inr (fun h => HE.out.ap j e h.symm))
            have HR2 := Hid.mk7 (HRC.out.grown hgrow2 (fun h => HNT.out _ h.symm rfl))
            have HB2 : Hid (RowKit.Below w.heap.size w w4) := HBX.out.grown hgrow2 HBX.out.size (fun j hj => (HTO.out.lt hj).1)
            have HAP : Hid (∀ j, u5.ownBlock = some j → tv2.ownBlock ≠ some j) := by
              intro j hj h
              rcases hlie2 with h1 | h1 | h1
              · exact HE.out.ap j hj (h1.symm.trans h)
              · have h2 := (HE.out.eo.lt hj).2
                rw [h1] at h
                simp at h
                omega
              · rw [h1] at h; cases h
            have HEX : Hid (Em base l w w.heap.size w4 (k + 1) u5 tv2 acc (txt ++ T) t) := by
              refine ⟨HE2.out, HT2.out, HAP.out, by omega, ?_, by rw [HE.out.eq, HQ.out], HB2.out⟩
              rw [inS_take HR.out, List.length_append]
              have := HE.out.tl
              simp only; omega
            have d1 := HR2.out.c1
            clear HE HEO HTO HNE HNT HBX HRC HCT HSC hown2 hgrow2 hlie2 HT2 HE2 HB2 HAP r0 r1 r2 c0 c1 c2
            go_wp2
            go_roundw
            case rel => exact ⟨k + 1, acc, _, t, by omega, by go_num, rfl, HEX⟩
            case measure => simp [intOf]; omega
    · obtain rfl : k = l.length := by omega
      have hq : elG base [] 0 l = acc ++ tx txt ++ if en < base then [(en, base, [])] else [] := by
        rw [HE.out.eq, List.drop_length, elG, List.append_assoc]
      have HQ := Hid.mk7 hq
      obtain ⟨ac2, HA2⟩ : ∃ x, Hid (acc ++ tx txt = x) := ⟨_, rfl⟩
      rw [HA2.out] at HQ
      have hEL : ac2.length ≤ 2 * l.length + 1 := by
        rw [← HA2.out, List.length_append]
        have : (tx txt).length ≤ 1 := by unfold tx; split <;> simp
        omega
      have HA := Hid.mk7 (addText_any w.heap.size w.heap.size u5 u6 acc txt wr hsz (by omega) (by omega) HE.out.eo HE.out.tw)
      clear hq
      go_wp2_with fail
      refine HA.out.mono ?_
      rintro e w1 ⟨v1, rfl, o1, g1, l1⟩
      rw [HA2.out] at o1
      have E1 := Hid.mk7 o1
      have B1 := Hid.mk7 (hb.grown g1 hsz (fun j hj => (HE.out.eo.lt hj).1))
      clear o1 g1 l1 HA HE
      by_cases hen : en < base
      · have den : decide (en < base) = true := decide_eq_true hen
        have HQ2 : Hid (elG base [] 0 l = ac2 ++ [(en, base, [])]) := by show _ = _; rw [HQ.out, if_pos hen]
        have RE := Hid.mk7 (Re.new w1 (.int .i64 en) (.int .i64 base) (.string ⟨#[]⟩))
        have E1' := Hid.mk7 (E1.out.alloc (.cells #[.int .i64 en, .int .i64 base, .string ⟨#[]⟩] 70))
        have B1' := Hid.mk7 (B1.out.alloc B1.out.size (.cells #[.int .i64 en, .int .i64 base, .string ⟨#[]⟩] 70))
        go_wp2_with (at_builtin; refine wpList_append_lies _ rfl _ _ 22 rfl w.heap.size 70 i0 (.agg #[.int .i64 0, .int .i64 0, .string ⟨#[]⟩]) 3 32 Tryd.underlying22 HI.out hz0 hz1 hz2 rfl (by decide) _ _ _ rfl E1'.out ⟨_, 0, none⟩ 1 1 [.int .i64 en, .int .i64 base, .string ⟨#[]⟩] rfl rfl (World.news_of_block RE.out) (fun u hu => by simp at hu; rcases hu with rfl | rfl | rfl <;> rfl) (by omega) (by unfold maxLen; omega) (by omega) B1'.out.size _ rfl ?_)
        intro gg cap2 w3 hown hgrow hat hlt
        have E3 : Hid (OwnE w3 w.heap.size (.slice (some ⟨gg, 0, none⟩) (ac2.length + 1) cap2) (elG base [] 0 l)) := by
          rw [HQ2.out]
          unfold OwnE
          rw [List.length_append, c3_append, c3_one]
          exact hown
        have B3 := Hid.mk7 (B1'.out.grown hgrow B1'.out.size (fun j hj => (E1'.out.lt hj).1))
        clear hown hgrow hat hlt E1 E1' B1 B1' RE
        go_wp2
        go_ret
        exact ⟨_, rfl, E3.out, B3.out⟩
      · have den : decide (en < base) = false := decide_eq_false hen
        have HQ2 : Hid (elG base [] 0 l = ac2) := by show _ = _; rw [HQ.out, if_neg hen, List.append_nil]
        go_wp2
        go_ret
        exact ⟨_, rfl, by rw [HQ2.out]; exact E1.out, B1.out⟩
end Go.Proofs.YtalolaajcmndeaaDoor
