/- ComposePlain walked. -/
import Derived.Test.YtiienebioebjpaaDoorComLaw
import Derived.Test.YtiienebioebjpaaDoorComAll
import Derived.Test.YtiienebioebjpaaDoorComKeep
namespace Go.Proofs.YtiienebioebjpaaDoor
open Go.RowKit Go.Sort Go.Lib
set_option linter.unusedSimpArgs false
set_option linter.unusedVariables false

set_option maxHeartbeats 8000000 in
set_option maxRecDepth 100000 in
theorem plain13_any (n : Int) {v : Value} {l : List El} (hn0 : 0 ≤ n) (hn1 : n ≤ 255) (hl : l.length ≤ maxLen) (hsm : Sm l maxLen) (w : World) (tb : Nat × Nat) (hT : Tab w tb) (h : ElAt w v l) :
    Calls Tryd.prog 7 #[.int .u8 n, v] w fun e w' => e = .returned (.bool true) ∧ RowKit.Below w.heap.size w w' := by
  obtain ⟨va, vcap, rfl, hvc, _, _⟩ := id h
  have L0 := Hid.mk7 h
  have T0 := Hid.mk7 hT
  have G0 := Hid.mk7 (RowKit.Below.refl w.heap.size w)
  clear hT h
  by_cases hlong : 10 < l.length
  · have t1 : decide ((10 : Int) < (l.length : Int)) = true := decide_eq_true (by omega)
    go_enter Tryd.func7, Tryd.ntmps7
    go_wp2_with fail
    refine (known13_any _ tb T0.out).mono ?_
    rintro e w11 ⟨rfl, bz⟩
    have L12 := Hid.mk7 (L0.out.later bz)
    have T12 := Hid.mk7 (T0.out.later bz)
    have G12 := Hid.mk7 (G0.out.trans (bz.mono G0.out.size))
    clear L0 T0 G0 bz
    go_wp2
    go_ret
    exact ⟨rfl, G12.out⟩
  have t1 : decide ((10 : Int) < (l.length : Int)) = false := decide_eq_false (by omega)
  have hl10 : l.length ≤ 10 := by omega
  clear hlong
  go_enter Tryd.func7, Tryd.ntmps7
  go_wp2_with fail
  refine (known13_any _ tb T0.out).mono ?_
  rintro e w11 ⟨rfl, bz⟩
  have L12 := Hid.mk7 (L0.out.later bz)
  have T12 := Hid.mk7 (T0.out.later bz)
  have G12 := Hid.mk7 (G0.out.trans (bz.mono G0.out.size))
  clear L0 T0 G0 bz
  obtain ⟨_, _, e4, _, _, hcells⟩ := id L12.out
  cases e4
  have HC := Hid.mk7 hcells
  clear hcells
  go_wp2
  go_loopw [5] (fun iv wr => ∃ k : Nat, k ≤ l.length ∧ iv = .int .i64 (k : Nat) ∧ Hid (Sm (l.take k) 40) ∧ w11 = wr) (fun iv _ => l.length - (intOf iv).toNat)
  case atStart => exact ⟨0, Nat.zero_le _, rfl, (fun e he => by simp at he), rfl⟩
  case round =>
    obtain ⟨k, hk, rfl, HS, rfl⟩ := hrel
    by_cases hlt : k < l.length
    · obtain ⟨⟨f, t, T⟩, hr⟩ : ∃ r, l[k]? = some r := ⟨l[k], List.getElem?_eq_getElem hlt⟩
      obtain ⟨g, off, rfl, q0, q1, q2⟩ := HC.out k _ hr
      simp only at q2
      have hcs : (cacc T).size = T.length := cacc_size T
      have HR := Hid.mk7 hr
      clear hr q0 q1
      generalize cacc T = z at *
      by_cases hT40 : 40 < T.length
      · have d1 : decide ((40 : Int) < (T.length : Int)) = true := decide_eq_true (by omega)
        go_wp2
        go_ret
        exact ⟨rfl, G12.out⟩
      have d1 : decide ((40 : Int) < (T.length : Int)) = false := decide_eq_false (by omega)
      have HS2 : Hid (Sm (l.take (k + 1)) 40) := by
        intro e he
        rw [take_snoc7 HR.out] at he
        rcases List.mem_append.1 he with he | he
        · exact HS.out e he
        · simp only [List.mem_singleton] at he
          subst he
          simp only; omega
      clear HS
      go_wp2
      go_roundw
      case rel => exact ⟨k + 1, by omega, by go_num, HS2, trivial⟩
      case measure => simp [intOf]; omega
    · obtain rfl : k = l.length := by omega
      have hsm40 : Sm l 40 := by have := HS.out; rw [List.take_length] at this; exact this
      have HSM := Hid.mk7 (hsm40.mono (n := 100000) (by omega))
      have hin4 : inS l ≤ 400 := by
        have := inS_bd l 40 hsm40
        omega
      clear hsm40 HS
      by_cases hf : flt n l = 0
      case neg =>
        obtain ⟨r, hfr⟩ : ∃ r, flt n l = r := ⟨_, rfl⟩
        rw [hfr] at hf
        have HFR := Hid.mk7 hfr
        have d1 : (r != 0) = true := by simpa using hf
        have d2 : decide (r = 0) = false := decide_eq_false hf
        clear hfr
        go_wp2_with fail
        refine (build_bv HFR.out hf (HSM.out.mono (by omega)) (by omega) L12.out T12.out).mono ?_
        rintro e w13 ⟨rfl, bz⟩
        have L14 := Hid.mk7 (L12.out.later bz)
        have T14 := Hid.mk7 (T12.out.later bz)
        have G14 := Hid.mk7 (G12.out.trans (bz.mono G12.out.size))
        clear L12 T12 G12 bz
        have bz : RowKit.Below w13.heap.size w13 (w13.alloc (.cells #[.int .i64 0, .slice none 0 0] 24)) := below_newE (RowKit.Below.refl _ _) _
        have nw15 := Hid.mk7 (@Rd.new w13 (.int .i64 0) (.slice none 0 0))
        have L16 := Hid.mk7 (L14.out.later bz)
        have T16 := Hid.mk7 (T14.out.later bz)
        have G16 := Hid.mk7 (G14.out.trans (bz.mono G14.out.size))
        clear L14 T14 G14 bz
        go_wp2
        go_ret
        exact ⟨rfl, G16.out⟩
      by_cases hm : (elG n [] 0 l).length ≤ 60
      case neg =>
        have HFR := Hid.mk7 hf
        clear hf
        go_wp2_with fail
        refine (build_many n L12.out (HSM.out.mono (by omega)) (by omega) (by omega) tb T12.out HFR.out (by omega)).mono ?_
        rintro e w13 ⟨rfl, bz⟩
        have L14 := Hid.mk7 (L12.out.later bz)
        have T14 := Hid.mk7 (T12.out.later bz)
        have G14 := Hid.mk7 (G12.out.trans (bz.mono G12.out.size))
        clear L12 T12 G12 bz
        have bz : RowKit.Below w13.heap.size w13 (w13.alloc (.cells #[.int .i64 0, .slice none 0 0] 24)) := below_newE (RowKit.Below.refl _ _) _
        have nw15 := Hid.mk7 (@Rd.new w13 (.int .i64 0) (.slice none 0 0))
        have L16 := Hid.mk7 (L14.out.later bz)
        have T16 := Hid.mk7 (T14.out.later bz)
        have G16 := Hid.mk7 (G14.out.trans (bz.mono G14.out.size))
        clear L14 T14 G14 bz
        go_wp2
        go_ret
        exact ⟨rfl, G16.out⟩
      have hei := isB_elG hf hm
      have hsz : (sz8 n l : Int) ≤ 700 := by
        have e1 := elG_size (gd_of hf).ch
        have e2 := (dl_of hei).cp1
        have e3 : inS (elG n [] 0 l) ≤ inS l := by have := elG_inS (base := n) l [] 0; simp at this; exact this
        rw [szE_two] at e1
        omega
      have hlen0 : (((cel (elG n [] 0 l)).length : Nat) : Int) = sz8 n l := by
        rw [cel_size _ 0 0 (dl_of hei).nm]; exact elG_size (gd_of hf).ch
      have HBV := Hid.mk7 (fun (W : World) (hx : ElAt W (.slice va l.length vcap) l) (t : Tab W tb) => build_v hf rfl hm HSM.out (by omega) (by omega) hx t)
      obtain ⟨es, hes⟩ : ∃ es, elG n [] 0 l = es := ⟨_, rfl⟩
      rw [hes] at HBV hei hlen0
      clear hes hf hm
      have hle := (dl_of hei).len
      obtain ⟨z, hz⟩ : ∃ z : Int, ((cel es).length : Nat) = z := ⟨_, rfl⟩
      rw [hz] at hlen0
      have hz0 : 0 ≤ z := by omega
      have hz7 : z ≤ 700 := by omega
      have hsze : szE es = z := by rw [← hz]; exact (cel_size es 0 0 (dl_of hei).nm).symm
      obtain ⟨K, hK⟩ : ∃ K, KE n = K := ⟨_, rfl⟩
      obtain ⟨K2, hK2⟩ : ∃ K2, KE z = K2 := ⟨_, rfl⟩
      obtain ⟨K3, hK3⟩ : ∃ K3, KE (z + 1) = K3 := ⟨_, rfl⟩
      have hKi : isB n K = true := by rw [← hK]; exact isB_KE hn0 (by omega)
      have hK2i : isB z K2 = true := by rw [← hK2]; exact isB_KE hz0 (by omega)
      have hK3i : isB (z + 1) K3 = true := by rw [← hK3]; exact isB_KE (by omega) (by omega)
      have hrs : Rs n es n es 0 := rs_good (isB_vl hei).1 (isB_vl hei).2
      have hkl : (((cel K).length : Nat) : Int) = n := by rw [← hK]; exact keep_len hn0
      have hta : tld (twoC (cel K) (cel es)) = es := by rw [← hK]; exact keep_ahead hei
      have htb : tld (twoC (cel es) (cel K2)) = es := by rw [← hK2, ← hz]; exact keep_behind hei
      have HK1 := Hid.mk7 (fun W => keep_v (m := n) (es := K) n (by omega) hK W)
      have HK2 := Hid.mk7 (fun W => keep_v (m := z) (es := K2) z (by omega) hK2 W)
      have HK3 := Hid.mk7 (fun W => keep_v (m := z + 1) (es := K3) (z + 1) (by omega) hK3 W)
      have HT1 := Hid.mk7 (fun (W : World) (u v : Value) (hx : ElAt W u K) (hy : ElAt W v es) (t : Tab W tb) => two_v hKi hei hkl hta hrs hx hy t)
      have HT2 := Hid.mk7 (fun (W : World) (u v : Value) (hx : ElAt W u es) (hy : ElAt W v K2) (t : Tab W tb) => two_v hei hK2i hz htb hrs hx hy t)
      have HT3 := Hid.mk7 (fun (W : World) (u v : Value) (hx : ElAt W u es) (hy : ElAt W v K3) (t : Tab W tb) => two_len hei hK3i hsze (by omega) hx hy t)
      have HSZ := Hid.mk7 (fun (W : World) (u : Value) (hx : ElAt W u es) (t : Tab W tb) => size_v hei hsze hx t)
      have HAL := Hid.mk7 (fun (W : World) (u : Value) (hx : DAt W u [(n, es)]) (t : Tab W tb) => all_ok (base := n) (K := K) (Z := es) hx (by simp) (by simp) (fun d hd => by simp at hd; subst hd; rfl) hK ⟨hKi, hei, hkl.symm, by simp only; rw [hta]; exact hei⟩ (by simp only [allE]; exact hta) t)
      clear hei hsz hlen0 hz hsze hK hK2 hK3 hKi hK2i hK3i hrs hkl hta htb
      go_wp2_with fail
      refine (HBV.out _ L12.out T12.out).mono ?_
      rintro e w13 ⟨ev, rfl, he, bz⟩
      obtain ⟨ea, ec, rfl, _, _, _⟩ := id he
      have L14 := Hid.mk7 (L12.out.later bz)
      have T14 := Hid.mk7 (T12.out.later bz)
      have G14 := Hid.mk7 (G12.out.trans (bz.mono G12.out.size))
      clear L12 T12 G12 bz
      have E15 := Hid.mk7 (he)
      clear he
      clear HBV
      have bz : RowKit.Below w13.heap.size w13 (w13.alloc (.cells #[.int .i64 n, .slice ea es.length ec] 24)) := below_newE (RowKit.Below.refl _ _) _
      have nw16 := Hid.mk7 (@Rd.new w13 (.int .i64 n) (.slice ea es.length ec))
      have L17 := Hid.mk7 (L14.out.later bz)
      have T17 := Hid.mk7 (T14.out.later bz)
      have G17 := Hid.mk7 (G14.out.trans (bz.mono G14.out.size))
      have E17 := Hid.mk7 (E15.out.later bz)
      clear L14 T14 G14 E15 bz
      have REc0 := nw16.out.c0
      have REc1 := nw16.out.c1
      go_upto_region 13 with fail
      clear REc0 REc1
      generalize w13.alloc (.cells #[.int .i64 n, .slice ea es.length ec] 24) = u13 at *
      generalize w13.heap.size = gd at *
      have REc0 := nw16.out.c0
      have REc1 := nw16.out.c1
      go_upto_region 13 with fail
      clear REc0 REc1
      go_cut [8, 9] from 43 to 50 (fun s9 s10 yA => ∃ (gz : Nat) (yv : Value), s9 = .pointer (some ⟨gz, 0, none⟩) ∧ s10 = .int .i64 0 ∧ Hid (Rd yA gz (.int .i64 n) yv) ∧ Hid (ElAt yA yv es) ∧ Hid (RowKit.Below u13.heap.size u13 yA))
      case first =>
        refine wp_region_turns (fun w' => ∃ q : (GW (fun W => Rd W gd (.int .i64 n) (.slice ea es.length ec))), w' = q.w) [0, 1, 3] 10 8 (by kernel_rfl) (by kernel_rfl) (fun d => ⟨⟨redrawn u13 d, nw16.out.later (below_redrawnE u13 d)⟩, rfl⟩) ?_
        intro d
        have k0 : ∀ q : (GW (fun W => Rd W gd (.int .i64 n) (.slice ea es.length ec))), q.w.cell? ⟨gd, 0, none⟩ = some (.int .i64 n) := fun q => q.h.c0
        have k1 : ∀ q : (GW (fun W => Rd W gd (.int .i64 n) (.slice ea es.length ec))), q.w.cell? ⟨gd, 1, none⟩ = some (.slice ea es.length ec) := fun q => q.h.c1
        simp only [pickAll, pickAt, List.nil_append, List.cons_append, List.append_nil]
        have hne : Nonempty (GW (fun W => Rd W gd (.int .i64 n) (.slice ea es.length ec))) := ⟨⟨u13, nw16.out⟩⟩
        repeat (go_big_quiet_step (fail))
        refine wpQuiet_nil ?_
        clear hne k0 k1
        have bb0 := Hid.mk7 (below_redrawnE u13 d)
        generalize redrawn u13 d = x0 at *
        refine anyC_pick2 2 8 (by kernel_rfl) (by kernel_rfl) (by kernel_rfl) ?_ ?_
        · simp only [pickAll, pickAt, List.nil_append, List.cons_append, List.append_nil]
          go_wp2_with fail
          refine (HK1.out _).mono ?_
          rintro e x1 ⟨kv, rfl, hy, bz⟩
          have C1 := Hid.mk7 hy
          have bb1 : Hid (RowKit.Below u13.heap.size u13 x1) := bb0.out.trans (bz.mono bb0.out.size)
          clear bz hy
          go_wp2
          refine anyNext_mk ⟨⟨_, nw16.out.later bb1.out⟩, rfl⟩ ?_
          refine anyC_pick2 4 8 (by kernel_rfl) (by kernel_rfl) (by kernel_rfl) ?_ ?_
          · simp only [pickAll, pickAt, List.nil_append, List.cons_append, List.append_nil]
            go_wp2_with fail
            refine (HT1.out _ _ _ C1.out (E17.out.later bb1.out) (T17.out.later bb1.out)).mono ?_
            rintro e x2 ⟨yv, rfl, hy, bz⟩
            obtain ⟨ya, yc, rfl, _, _, _⟩ := id hy
            have C2 := Hid.mk7 (C1.out.later bz)
            have Y2 := Hid.mk7 hy
            have bb2 : Hid (RowKit.Below u13.heap.size u13 x2) := bb1.out.trans (bz.mono bb1.out.size)
            clear bz hy
            go_wp2
            refine anyNext_mk ⟨⟨_, nw16.out.later bb2.out⟩, rfl⟩ ?_
            refine anyC_pick2 5 8 (by kernel_rfl) (by kernel_rfl) (by kernel_rfl) ?_ ?_
            · simp only [pickAll, pickAt, List.nil_append, List.cons_append, List.append_nil]
              go_wp2
              refine anyNext_mk ⟨⟨_, nw16.out.later bb2.out⟩, rfl⟩ ?_
              refine anyC_pick3F 6 7 8 (by kernel_rfl) (by kernel_rfl) (by kernel_rfl) (by kernel_rfl) ?_ ?_ ?_
              · simp only [pickAll, pickAt, List.nil_append, List.cons_append, List.append_nil]
                go_wp2
                refine anyNext_mk ⟨⟨_, nw16.out.later bb2.out⟩, rfl⟩ ?_
                refine anyC_pick2 7 8 (by kernel_rfl) (by kernel_rfl) (by kernel_rfl) ?_ ?_
                · simp only [pickAll, pickAt, List.nil_append, List.cons_append, List.append_nil]
                  go_wp2
                  refine anyNext_mk ⟨⟨_, nw16.out.later bb2.out⟩, rfl⟩ ?_
                  refine anyC_pick1 8 (by kernel_rfl) (by kernel_rfl) ?_
                  simp only [pickAll, pickAt, List.nil_append, List.cons_append, List.append_nil]
                  have C6 := Hid.mk7 (C2.out.later (below_newE (RowKit.Below.refl _ _) (.cells #[.int .i64 0, .slice none 0 0] 24)))
                  have Y6 := Hid.mk7 (Y2.out.later (below_newE (RowKit.Below.refl _ _) (.cells #[.int .i64 0, .slice none 0 0] 24)))
                  have Z6 : Hid (Rd (x2.alloc (.cells #[.int .i64 0, .slice none 0 0] 24)) x2.heap.size (.int .i64 0) (.slice none 0 0)) := Rd.new _ _ _
                  have bb6 : Hid (RowKit.Below u13.heap.size u13 (x2.alloc (.cells #[.int .i64 0, .slice none 0 0] 24))) := bb2.out.alloc bb2.out.size _
                  have hgz := bb2.out.size
                  go_wp2
                  generalize (x2.alloc (.cells #[.int .i64 0, .slice none 0 0] 24)) = x6 at *
                  generalize x2.heap.size = gz at *
                  refine anyNext_mk ⟨⟨_, nw16.out.later bb6.out⟩, rfl⟩ ?_
                  refine anyC_pick1 9 (by kernel_rfl) (by kernel_rfl) ?_
                  simp only [pickAll, pickAt, List.nil_append, List.cons_append, List.append_nil]
                  have c0 := Z6.out.c0
                  have c1 := Z6.out.c1
                  have fz := Z6.out.fz
                  have c2 : (x6.setCell ⟨gz, 0, none⟩ (.int .i64 n)).cell? ⟨gz, 1, none⟩ = some (.slice none 0 0) := (Z6.out.set0 _).c1
                  have fz2 := (Z6.out.set0 (.int .i64 n)).fz
                  have Y7 := Hid.mk7 (Y6.out.set_del Z6.out (.int .i64 n) (.slice ya es.length yc))
                  have Z7 := Hid.mk7 (Z6.out.set (.int .i64 n) (.slice ya es.length yc))
                  have bb7 : Hid (RowKit.Below u13.heap.size u13 ((x6.setCell ⟨gz, 0, none⟩ (.int .i64 n)).setCell ⟨gz, 1, none⟩ (.slice ya es.length yc))) := below_set2 bb6.out hgz _ _
                  go_wp2
                  clear c0 c1 c2 fz fz2
                  generalize ((x6.setCell ⟨gz, 0, none⟩ (.int .i64 n)).setCell ⟨gz, 1, none⟩ (.slice ya es.length yc)) = x7 at *
                  refine anyNext_mk ⟨⟨_, nw16.out.later bb7.out⟩, rfl⟩ ?_
                  refine anyC_pick1 10 (by kernel_rfl) (by kernel_rfl) ?_
                  simp only [pickAll, pickAt, List.nil_append, List.cons_append, List.append_nil]
                  go_wp2
                  refine anyNext_last (anyC_done (by kernel_rfl) ?_)
                  go_wp2
                  go_meet
                  exact ⟨gz, _, rfl, rfl, Z7, Y7, bb7⟩
                · simp only [pickAll, pickAt, List.nil_append, List.cons_append, List.append_nil]
                  have C9 := Hid.mk7 (C2.out.later (below_newE (RowKit.Below.refl _ _) (.cells #[.int .i64 0, .slice none 0 0] 24)))
                  have Y9 := Hid.mk7 (Y2.out.later (below_newE (RowKit.Below.refl _ _) (.cells #[.int .i64 0, .slice none 0 0] 24)))
                  have Z9 : Hid (Rd (x2.alloc (.cells #[.int .i64 0, .slice none 0 0] 24)) x2.heap.size (.int .i64 0) (.slice none 0 0)) := Rd.new _ _ _
                  have bb9 : Hid (RowKit.Below u13.heap.size u13 (x2.alloc (.cells #[.int .i64 0, .slice none 0 0] 24))) := bb2.out.alloc bb2.out.size _
                  have hgz := bb2.out.size
                  go_wp2
                  generalize (x2.alloc (.cells #[.int .i64 0, .slice none 0 0] 24)) = x9 at *
                  generalize x2.heap.size = gz at *
                  refine anyNext_mk ⟨⟨_, nw16.out.later bb9.out⟩, rfl⟩ ?_
                  refine anyC_pick2 7 9 (by kernel_rfl) (by kernel_rfl) (by kernel_rfl) ?_ ?_
                  · simp only [pickAll, pickAt, List.nil_append, List.cons_append, List.append_nil]
                    go_wp2
                    refine anyNext_mk ⟨⟨_, nw16.out.later bb9.out⟩, rfl⟩ ?_
                    refine anyC_pick1 9 (by kernel_rfl) (by kernel_rfl) ?_
                    simp only [pickAll, pickAt, List.nil_append, List.cons_append, List.append_nil]
                    have c0 := Z9.out.c0
                    have c1 := Z9.out.c1
                    have fz := Z9.out.fz
                    have c2 : (x9.setCell ⟨gz, 0, none⟩ (.int .i64 n)).cell? ⟨gz, 1, none⟩ = some (.slice none 0 0) := (Z9.out.set0 _).c1
                    have fz2 := (Z9.out.set0 (.int .i64 n)).fz
                    have Y11 := Hid.mk7 (Y9.out.set_del Z9.out (.int .i64 n) (.slice ya es.length yc))
                    have Z11 := Hid.mk7 (Z9.out.set (.int .i64 n) (.slice ya es.length yc))
                    have bb11 : Hid (RowKit.Below u13.heap.size u13 ((x9.setCell ⟨gz, 0, none⟩ (.int .i64 n)).setCell ⟨gz, 1, none⟩ (.slice ya es.length yc))) := below_set2 bb9.out hgz _ _
                    go_wp2
                    clear c0 c1 c2 fz fz2
                    generalize ((x9.setCell ⟨gz, 0, none⟩ (.int .i64 n)).setCell ⟨gz, 1, none⟩ (.slice ya es.length yc)) = x11 at *
                    refine anyNext_mk ⟨⟨_, nw16.out.later bb11.out⟩, rfl⟩ ?_
                    refine anyC_pick1 10 (by kernel_rfl) (by kernel_rfl) ?_
                    simp only [pickAll, pickAt, List.nil_append, List.cons_append, List.append_nil]
                    go_wp2
                    refine anyNext_last (anyC_done (by kernel_rfl) ?_)
                    go_wp2
                    go_meet
                    exact ⟨gz, _, rfl, rfl, Z11, Y11, bb11⟩
                  · simp only [pickAll, pickAt, List.nil_append, List.cons_append, List.append_nil]
                    have c0 := Z9.out.c0
                    have c1 := Z9.out.c1
                    have fz := Z9.out.fz
                    have c2 : (x9.setCell ⟨gz, 0, none⟩ (.int .i64 n)).cell? ⟨gz, 1, none⟩ = some (.slice none 0 0) := (Z9.out.set0 _).c1
                    have fz2 := (Z9.out.set0 (.int .i64 n)).fz
                    have Y13 := Hid.mk7 (Y9.out.set_del Z9.out (.int .i64 n) (.slice ya es.length yc))
                    have Z13 := Hid.mk7 (Z9.out.set (.int .i64 n) (.slice ya es.length yc))
                    have bb13 : Hid (RowKit.Below u13.heap.size u13 ((x9.setCell ⟨gz, 0, none⟩ (.int .i64 n)).setCell ⟨gz, 1, none⟩ (.slice ya es.length yc))) := below_set2 bb9.out hgz _ _
                    go_wp2
                    clear c0 c1 c2 fz fz2
                    generalize ((x9.setCell ⟨gz, 0, none⟩ (.int .i64 n)).setCell ⟨gz, 1, none⟩ (.slice ya es.length yc)) = x13 at *
                    refine anyNext_mk ⟨⟨_, nw16.out.later bb13.out⟩, rfl⟩ ?_
                    refine anyC_pick1 7 (by kernel_rfl) (by kernel_rfl) ?_
                    simp only [pickAll, pickAt, List.nil_append, List.cons_append, List.append_nil]
                    go_wp2
                    refine anyNext_mk ⟨⟨_, nw16.out.later bb13.out⟩, rfl⟩ ?_
                    refine anyC_pick1 10 (by kernel_rfl) (by kernel_rfl) ?_
                    simp only [pickAll, pickAt, List.nil_append, List.cons_append, List.append_nil]
                    go_wp2
                    refine anyNext_last (anyC_done (by kernel_rfl) ?_)
                    go_wp2
                    go_meet
                    exact ⟨gz, _, rfl, rfl, Z13, Y13, bb13⟩
              · simp only [pickAll, pickAt, List.nil_append, List.cons_append, List.append_nil]
                go_wp2
                refine anyNext_mk ⟨⟨_, nw16.out.later bb2.out⟩, rfl⟩ ?_
                refine anyC_pick2 6 8 (by kernel_rfl) (by kernel_rfl) (by kernel_rfl) ?_ ?_
                · simp only [pickAll, pickAt, List.nil_append, List.cons_append, List.append_nil]
                  go_wp2
                  refine anyNext_mk ⟨⟨_, nw16.out.later bb2.out⟩, rfl⟩ ?_
                  refine anyC_pick1 8 (by kernel_rfl) (by kernel_rfl) ?_
                  simp only [pickAll, pickAt, List.nil_append, List.cons_append, List.append_nil]
                  have C18 := Hid.mk7 (C2.out.later (below_newE (RowKit.Below.refl _ _) (.cells #[.int .i64 0, .slice none 0 0] 24)))
                  have Y18 := Hid.mk7 (Y2.out.later (below_newE (RowKit.Below.refl _ _) (.cells #[.int .i64 0, .slice none 0 0] 24)))
                  have Z18 : Hid (Rd (x2.alloc (.cells #[.int .i64 0, .slice none 0 0] 24)) x2.heap.size (.int .i64 0) (.slice none 0 0)) := Rd.new _ _ _
                  have bb18 : Hid (RowKit.Below u13.heap.size u13 (x2.alloc (.cells #[.int .i64 0, .slice none 0 0] 24))) := bb2.out.alloc bb2.out.size _
                  have hgz := bb2.out.size
                  go_wp2
                  generalize (x2.alloc (.cells #[.int .i64 0, .slice none 0 0] 24)) = x18 at *
                  generalize x2.heap.size = gz at *
                  refine anyNext_mk ⟨⟨_, nw16.out.later bb18.out⟩, rfl⟩ ?_
                  refine anyC_pick1 9 (by kernel_rfl) (by kernel_rfl) ?_
                  simp only [pickAll, pickAt, List.nil_append, List.cons_append, List.append_nil]
                  have c0 := Z18.out.c0
                  have c1 := Z18.out.c1
                  have fz := Z18.out.fz
                  have c2 : (x18.setCell ⟨gz, 0, none⟩ (.int .i64 n)).cell? ⟨gz, 1, none⟩ = some (.slice none 0 0) := (Z18.out.set0 _).c1
                  have fz2 := (Z18.out.set0 (.int .i64 n)).fz
                  have Y19 := Hid.mk7 (Y18.out.set_del Z18.out (.int .i64 n) (.slice ya es.length yc))
                  have Z19 := Hid.mk7 (Z18.out.set (.int .i64 n) (.slice ya es.length yc))
                  have bb19 : Hid (RowKit.Below u13.heap.size u13 ((x18.setCell ⟨gz, 0, none⟩ (.int .i64 n)).setCell ⟨gz, 1, none⟩ (.slice ya es.length yc))) := below_set2 bb18.out hgz _ _
                  go_wp2
                  clear c0 c1 c2 fz fz2
                  generalize ((x18.setCell ⟨gz, 0, none⟩ (.int .i64 n)).setCell ⟨gz, 1, none⟩ (.slice ya es.length yc)) = x19 at *
                  refine anyNext_mk ⟨⟨_, nw16.out.later bb19.out⟩, rfl⟩ ?_
                  refine anyC_pick1 10 (by kernel_rfl) (by kernel_rfl) ?_
                  simp only [pickAll, pickAt, List.nil_append, List.cons_append, List.append_nil]
                  go_wp2
                  refine anyNext_last (anyC_done (by kernel_rfl) ?_)
                  go_wp2
                  go_meet
                  exact ⟨gz, _, rfl, rfl, Z19, Y19, bb19⟩
                · simp only [pickAll, pickAt, List.nil_append, List.cons_append, List.append_nil]
                  have C21 := Hid.mk7 (C2.out.later (below_newE (RowKit.Below.refl _ _) (.cells #[.int .i64 0, .slice none 0 0] 24)))
                  have Y21 := Hid.mk7 (Y2.out.later (below_newE (RowKit.Below.refl _ _) (.cells #[.int .i64 0, .slice none 0 0] 24)))
                  have Z21 : Hid (Rd (x2.alloc (.cells #[.int .i64 0, .slice none 0 0] 24)) x2.heap.size (.int .i64 0) (.slice none 0 0)) := Rd.new _ _ _
                  have bb21 : Hid (RowKit.Below u13.heap.size u13 (x2.alloc (.cells #[.int .i64 0, .slice none 0 0] 24))) := bb2.out.alloc bb2.out.size _
                  have hgz := bb2.out.size
                  go_wp2
                  generalize (x2.alloc (.cells #[.int .i64 0, .slice none 0 0] 24)) = x21 at *
                  generalize x2.heap.size = gz at *
                  refine anyNext_mk ⟨⟨_, nw16.out.later bb21.out⟩, rfl⟩ ?_
                  refine anyC_pick1 6 (by kernel_rfl) (by kernel_rfl) ?_
                  simp only [pickAll, pickAt, List.nil_append, List.cons_append, List.append_nil]
                  go_wp2
                  refine anyNext_mk ⟨⟨_, nw16.out.later bb21.out⟩, rfl⟩ ?_
                  refine anyC_pick1 9 (by kernel_rfl) (by kernel_rfl) ?_
                  simp only [pickAll, pickAt, List.nil_append, List.cons_append, List.append_nil]
                  have c0 := Z21.out.c0
                  have c1 := Z21.out.c1
                  have fz := Z21.out.fz
                  have c2 : (x21.setCell ⟨gz, 0, none⟩ (.int .i64 n)).cell? ⟨gz, 1, none⟩ = some (.slice none 0 0) := (Z21.out.set0 _).c1
                  have fz2 := (Z21.out.set0 (.int .i64 n)).fz
                  have Y23 := Hid.mk7 (Y21.out.set_del Z21.out (.int .i64 n) (.slice ya es.length yc))
                  have Z23 := Hid.mk7 (Z21.out.set (.int .i64 n) (.slice ya es.length yc))
                  have bb23 : Hid (RowKit.Below u13.heap.size u13 ((x21.setCell ⟨gz, 0, none⟩ (.int .i64 n)).setCell ⟨gz, 1, none⟩ (.slice ya es.length yc))) := below_set2 bb21.out hgz _ _
                  go_wp2
                  clear c0 c1 c2 fz fz2
                  generalize ((x21.setCell ⟨gz, 0, none⟩ (.int .i64 n)).setCell ⟨gz, 1, none⟩ (.slice ya es.length yc)) = x23 at *
                  refine anyNext_mk ⟨⟨_, nw16.out.later bb23.out⟩, rfl⟩ ?_
                  refine anyC_pick1 10 (by kernel_rfl) (by kernel_rfl) ?_
                  simp only [pickAll, pickAt, List.nil_append, List.cons_append, List.append_nil]
                  go_wp2
                  refine anyNext_last (anyC_done (by kernel_rfl) ?_)
                  go_wp2
                  go_meet
                  exact ⟨gz, _, rfl, rfl, Z23, Y23, bb23⟩
              · simp only [pickAll, pickAt, List.nil_append, List.cons_append, List.append_nil]
                have C25 := Hid.mk7 (C2.out.later (below_newE (RowKit.Below.refl _ _) (.cells #[.int .i64 0, .slice none 0 0] 24)))
                have Y25 := Hid.mk7 (Y2.out.later (below_newE (RowKit.Below.refl _ _) (.cells #[.int .i64 0, .slice none 0 0] 24)))
                have Z25 : Hid (Rd (x2.alloc (.cells #[.int .i64 0, .slice none 0 0] 24)) x2.heap.size (.int .i64 0) (.slice none 0 0)) := Rd.new _ _ _
                have bb25 : Hid (RowKit.Below u13.heap.size u13 (x2.alloc (.cells #[.int .i64 0, .slice none 0 0] 24))) := bb2.out.alloc bb2.out.size _
                have hgz := bb2.out.size
                go_wp2
                generalize (x2.alloc (.cells #[.int .i64 0, .slice none 0 0] 24)) = x25 at *
                generalize x2.heap.size = gz at *
                refine anyNext_mk ⟨⟨_, nw16.out.later bb25.out⟩, rfl⟩ ?_
                refine anyC_pick2 6 7 (by kernel_rfl) (by kernel_rfl) (by kernel_rfl) ?_ ?_
                · simp only [pickAll, pickAt, List.nil_append, List.cons_append, List.append_nil]
                  go_wp2
                  refine anyNext_mk ⟨⟨_, nw16.out.later bb25.out⟩, rfl⟩ ?_
                  refine anyC_pick2 7 9 (by kernel_rfl) (by kernel_rfl) (by kernel_rfl) ?_ ?_
                  · simp only [pickAll, pickAt, List.nil_append, List.cons_append, List.append_nil]
                    go_wp2
                    refine anyNext_mk ⟨⟨_, nw16.out.later bb25.out⟩, rfl⟩ ?_
                    refine anyC_pick1 9 (by kernel_rfl) (by kernel_rfl) ?_
                    simp only [pickAll, pickAt, List.nil_append, List.cons_append, List.append_nil]
                    have c0 := Z25.out.c0
                    have c1 := Z25.out.c1
                    have fz := Z25.out.fz
                    have c2 : (x25.setCell ⟨gz, 0, none⟩ (.int .i64 n)).cell? ⟨gz, 1, none⟩ = some (.slice none 0 0) := (Z25.out.set0 _).c1
                    have fz2 := (Z25.out.set0 (.int .i64 n)).fz
                    have Y28 := Hid.mk7 (Y25.out.set_del Z25.out (.int .i64 n) (.slice ya es.length yc))
                    have Z28 := Hid.mk7 (Z25.out.set (.int .i64 n) (.slice ya es.length yc))
                    have bb28 : Hid (RowKit.Below u13.heap.size u13 ((x25.setCell ⟨gz, 0, none⟩ (.int .i64 n)).setCell ⟨gz, 1, none⟩ (.slice ya es.length yc))) := below_set2 bb25.out hgz _ _
                    go_wp2
                    clear c0 c1 c2 fz fz2
                    generalize ((x25.setCell ⟨gz, 0, none⟩ (.int .i64 n)).setCell ⟨gz, 1, none⟩ (.slice ya es.length yc)) = x28 at *
                    refine anyNext_mk ⟨⟨_, nw16.out.later bb28.out⟩, rfl⟩ ?_
                    refine anyC_pick1 10 (by kernel_rfl) (by kernel_rfl) ?_
                    simp only [pickAll, pickAt, List.nil_append, List.cons_append, List.append_nil]
                    go_wp2
                    refine anyNext_last (anyC_done (by kernel_rfl) ?_)
                    go_wp2
                    go_meet
                    exact ⟨gz, _, rfl, rfl, Z28, Y28, bb28⟩
                  · simp only [pickAll, pickAt, List.nil_append, List.cons_append, List.append_nil]
                    have c0 := Z25.out.c0
                    have c1 := Z25.out.c1
                    have fz := Z25.out.fz
                    have c2 : (x25.setCell ⟨gz, 0, none⟩ (.int .i64 n)).cell? ⟨gz, 1, none⟩ = some (.slice none 0 0) := (Z25.out.set0 _).c1
                    have fz2 := (Z25.out.set0 (.int .i64 n)).fz
                    have Y30 := Hid.mk7 (Y25.out.set_del Z25.out (.int .i64 n) (.slice ya es.length yc))
                    have Z30 := Hid.mk7 (Z25.out.set (.int .i64 n) (.slice ya es.length yc))
                    have bb30 : Hid (RowKit.Below u13.heap.size u13 ((x25.setCell ⟨gz, 0, none⟩ (.int .i64 n)).setCell ⟨gz, 1, none⟩ (.slice ya es.length yc))) := below_set2 bb25.out hgz _ _
                    go_wp2
                    clear c0 c1 c2 fz fz2
                    generalize ((x25.setCell ⟨gz, 0, none⟩ (.int .i64 n)).setCell ⟨gz, 1, none⟩ (.slice ya es.length yc)) = x30 at *
                    refine anyNext_mk ⟨⟨_, nw16.out.later bb30.out⟩, rfl⟩ ?_
                    refine anyC_pick1 7 (by kernel_rfl) (by kernel_rfl) ?_
                    simp only [pickAll, pickAt, List.nil_append, List.cons_append, List.append_nil]
                    go_wp2
                    refine anyNext_mk ⟨⟨_, nw16.out.later bb30.out⟩, rfl⟩ ?_
                    refine anyC_pick1 10 (by kernel_rfl) (by kernel_rfl) ?_
                    simp only [pickAll, pickAt, List.nil_append, List.cons_append, List.append_nil]
                    go_wp2
                    refine anyNext_last (anyC_done (by kernel_rfl) ?_)
                    go_wp2
                    go_meet
                    exact ⟨gz, _, rfl, rfl, Z30, Y30, bb30⟩
                · simp only [pickAll, pickAt, List.nil_append, List.cons_append, List.append_nil]
                  go_wp2
                  refine anyNext_mk ⟨⟨_, nw16.out.later bb25.out⟩, rfl⟩ ?_
                  refine anyC_pick1 6 (by kernel_rfl) (by kernel_rfl) ?_
                  simp only [pickAll, pickAt, List.nil_append, List.cons_append, List.append_nil]
                  go_wp2
                  refine anyNext_mk ⟨⟨_, nw16.out.later bb25.out⟩, rfl⟩ ?_
                  refine anyC_pick1 9 (by kernel_rfl) (by kernel_rfl) ?_
                  simp only [pickAll, pickAt, List.nil_append, List.cons_append, List.append_nil]
                  have c0 := Z25.out.c0
                  have c1 := Z25.out.c1
                  have fz := Z25.out.fz
                  have c2 : (x25.setCell ⟨gz, 0, none⟩ (.int .i64 n)).cell? ⟨gz, 1, none⟩ = some (.slice none 0 0) := (Z25.out.set0 _).c1
                  have fz2 := (Z25.out.set0 (.int .i64 n)).fz
                  have Y35 := Hid.mk7 (Y25.out.set_del Z25.out (.int .i64 n) (.slice ya es.length yc))
                  have Z35 := Hid.mk7 (Z25.out.set (.int .i64 n) (.slice ya es.length yc))
                  have bb35 : Hid (RowKit.Below u13.heap.size u13 ((x25.setCell ⟨gz, 0, none⟩ (.int .i64 n)).setCell ⟨gz, 1, none⟩ (.slice ya es.length yc))) := below_set2 bb25.out hgz _ _
                  go_wp2
                  clear c0 c1 c2 fz fz2
                  generalize ((x25.setCell ⟨gz, 0, none⟩ (.int .i64 n)).setCell ⟨gz, 1, none⟩ (.slice ya es.length yc)) = x35 at *
                  refine anyNext_mk ⟨⟨_, nw16.out.later bb35.out⟩, rfl⟩ ?_
                  refine anyC_pick1 10 (by kernel_rfl) (by kernel_rfl) ?_
                  simp only [pickAll, pickAt, List.nil_append, List.cons_append, List.append_nil]
                  go_wp2
                  refine anyNext_last (anyC_done (by kernel_rfl) ?_)
                  go_wp2
                  go_meet
                  exact ⟨gz, _, rfl, rfl, Z35, Y35, bb35⟩
            · simp only [pickAll, pickAt, List.nil_append, List.cons_append, List.append_nil]
              have C37 := Hid.mk7 (C2.out.later (below_newE (RowKit.Below.refl _ _) (.cells #[.int .i64 0, .slice none 0 0] 24)))
              have Y37 := Hid.mk7 (Y2.out.later (below_newE (RowKit.Below.refl _ _) (.cells #[.int .i64 0, .slice none 0 0] 24)))
              have Z37 : Hid (Rd (x2.alloc (.cells #[.int .i64 0, .slice none 0 0] 24)) x2.heap.size (.int .i64 0) (.slice none 0 0)) := Rd.new _ _ _
              have bb37 : Hid (RowKit.Below u13.heap.size u13 (x2.alloc (.cells #[.int .i64 0, .slice none 0 0] 24))) := bb2.out.alloc bb2.out.size _
              have hgz := bb2.out.size
              go_wp2
              generalize (x2.alloc (.cells #[.int .i64 0, .slice none 0 0] 24)) = x37 at *
              generalize x2.heap.size = gz at *
              refine anyNext_mk ⟨⟨_, nw16.out.later bb37.out⟩, rfl⟩ ?_
              refine anyC_pick1 5 (by kernel_rfl) (by kernel_rfl) ?_
              simp only [pickAll, pickAt, List.nil_append, List.cons_append, List.append_nil]
              go_wp2
              refine anyNext_mk ⟨⟨_, nw16.out.later bb37.out⟩, rfl⟩ ?_
              refine anyC_pick2 6 7 (by kernel_rfl) (by kernel_rfl) (by kernel_rfl) ?_ ?_
              · simp only [pickAll, pickAt, List.nil_append, List.cons_append, List.append_nil]
                go_wp2
                refine anyNext_mk ⟨⟨_, nw16.out.later bb37.out⟩, rfl⟩ ?_
                refine anyC_pick2 7 9 (by kernel_rfl) (by kernel_rfl) (by kernel_rfl) ?_ ?_
                · simp only [pickAll, pickAt, List.nil_append, List.cons_append, List.append_nil]
                  go_wp2
                  refine anyNext_mk ⟨⟨_, nw16.out.later bb37.out⟩, rfl⟩ ?_
                  refine anyC_pick1 9 (by kernel_rfl) (by kernel_rfl) ?_
                  simp only [pickAll, pickAt, List.nil_append, List.cons_append, List.append_nil]
                  have c0 := Z37.out.c0
                  have c1 := Z37.out.c1
                  have fz := Z37.out.fz
                  have c2 : (x37.setCell ⟨gz, 0, none⟩ (.int .i64 n)).cell? ⟨gz, 1, none⟩ = some (.slice none 0 0) := (Z37.out.set0 _).c1
                  have fz2 := (Z37.out.set0 (.int .i64 n)).fz
                  have Y41 := Hid.mk7 (Y37.out.set_del Z37.out (.int .i64 n) (.slice ya es.length yc))
                  have Z41 := Hid.mk7 (Z37.out.set (.int .i64 n) (.slice ya es.length yc))
                  have bb41 : Hid (RowKit.Below u13.heap.size u13 ((x37.setCell ⟨gz, 0, none⟩ (.int .i64 n)).setCell ⟨gz, 1, none⟩ (.slice ya es.length yc))) := below_set2 bb37.out hgz _ _
                  go_wp2
                  clear c0 c1 c2 fz fz2
                  generalize ((x37.setCell ⟨gz, 0, none⟩ (.int .i64 n)).setCell ⟨gz, 1, none⟩ (.slice ya es.length yc)) = x41 at *
                  refine anyNext_mk ⟨⟨_, nw16.out.later bb41.out⟩, rfl⟩ ?_
                  refine anyC_pick1 10 (by kernel_rfl) (by kernel_rfl) ?_
                  simp only [pickAll, pickAt, List.nil_append, List.cons_append, List.append_nil]
                  go_wp2
                  refine anyNext_last (anyC_done (by kernel_rfl) ?_)
                  go_wp2
                  go_meet
                  exact ⟨gz, _, rfl, rfl, Z41, Y41, bb41⟩
                · simp only [pickAll, pickAt, List.nil_append, List.cons_append, List.append_nil]
                  have c0 := Z37.out.c0
                  have c1 := Z37.out.c1
                  have fz := Z37.out.fz
                  have c2 : (x37.setCell ⟨gz, 0, none⟩ (.int .i64 n)).cell? ⟨gz, 1, none⟩ = some (.slice none 0 0) := (Z37.out.set0 _).c1
                  have fz2 := (Z37.out.set0 (.int .i64 n)).fz
                  have Y43 := Hid.mk7 (Y37.out.set_del Z37.out (.int .i64 n) (.slice ya es.length yc))
                  have Z43 := Hid.mk7 (Z37.out.set (.int .i64 n) (.slice ya es.length yc))
                  have bb43 : Hid (RowKit.Below u13.heap.size u13 ((x37.setCell ⟨gz, 0, none⟩ (.int .i64 n)).setCell ⟨gz, 1, none⟩ (.slice ya es.length yc))) := below_set2 bb37.out hgz _ _
                  go_wp2
                  clear c0 c1 c2 fz fz2
                  generalize ((x37.setCell ⟨gz, 0, none⟩ (.int .i64 n)).setCell ⟨gz, 1, none⟩ (.slice ya es.length yc)) = x43 at *
                  refine anyNext_mk ⟨⟨_, nw16.out.later bb43.out⟩, rfl⟩ ?_
                  refine anyC_pick1 7 (by kernel_rfl) (by kernel_rfl) ?_
                  simp only [pickAll, pickAt, List.nil_append, List.cons_append, List.append_nil]
                  go_wp2
                  refine anyNext_mk ⟨⟨_, nw16.out.later bb43.out⟩, rfl⟩ ?_
                  refine anyC_pick1 10 (by kernel_rfl) (by kernel_rfl) ?_
                  simp only [pickAll, pickAt, List.nil_append, List.cons_append, List.append_nil]
                  go_wp2
                  refine anyNext_last (anyC_done (by kernel_rfl) ?_)
                  go_wp2
                  go_meet
                  exact ⟨gz, _, rfl, rfl, Z43, Y43, bb43⟩
              · simp only [pickAll, pickAt, List.nil_append, List.cons_append, List.append_nil]
                go_wp2
                refine anyNext_mk ⟨⟨_, nw16.out.later bb37.out⟩, rfl⟩ ?_
                refine anyC_pick1 6 (by kernel_rfl) (by kernel_rfl) ?_
                simp only [pickAll, pickAt, List.nil_append, List.cons_append, List.append_nil]
                go_wp2
                refine anyNext_mk ⟨⟨_, nw16.out.later bb37.out⟩, rfl⟩ ?_
                refine anyC_pick1 9 (by kernel_rfl) (by kernel_rfl) ?_
                simp only [pickAll, pickAt, List.nil_append, List.cons_append, List.append_nil]
                have c0 := Z37.out.c0
                have c1 := Z37.out.c1
                have fz := Z37.out.fz
                have c2 : (x37.setCell ⟨gz, 0, none⟩ (.int .i64 n)).cell? ⟨gz, 1, none⟩ = some (.slice none 0 0) := (Z37.out.set0 _).c1
                have fz2 := (Z37.out.set0 (.int .i64 n)).fz
                have Y48 := Hid.mk7 (Y37.out.set_del Z37.out (.int .i64 n) (.slice ya es.length yc))
                have Z48 := Hid.mk7 (Z37.out.set (.int .i64 n) (.slice ya es.length yc))
                have bb48 : Hid (RowKit.Below u13.heap.size u13 ((x37.setCell ⟨gz, 0, none⟩ (.int .i64 n)).setCell ⟨gz, 1, none⟩ (.slice ya es.length yc))) := below_set2 bb37.out hgz _ _
                go_wp2
                clear c0 c1 c2 fz fz2
                generalize ((x37.setCell ⟨gz, 0, none⟩ (.int .i64 n)).setCell ⟨gz, 1, none⟩ (.slice ya es.length yc)) = x48 at *
                refine anyNext_mk ⟨⟨_, nw16.out.later bb48.out⟩, rfl⟩ ?_
                refine anyC_pick1 10 (by kernel_rfl) (by kernel_rfl) ?_
                simp only [pickAll, pickAt, List.nil_append, List.cons_append, List.append_nil]
                go_wp2
                refine anyNext_last (anyC_done (by kernel_rfl) ?_)
                go_wp2
                go_meet
                exact ⟨gz, _, rfl, rfl, Z48, Y48, bb48⟩
          · simp only [pickAll, pickAt, List.nil_append, List.cons_append, List.append_nil]
            have C50 := Hid.mk7 (C1.out.later (below_newE (RowKit.Below.refl _ _) (.cells #[.int .i64 0, .slice none 0 0] 24)))
            have Z50 : Hid (Rd (x1.alloc (.cells #[.int .i64 0, .slice none 0 0] 24)) x1.heap.size (.int .i64 0) (.slice none 0 0)) := Rd.new _ _ _
            have bb50 : Hid (RowKit.Below u13.heap.size u13 (x1.alloc (.cells #[.int .i64 0, .slice none 0 0] 24))) := bb1.out.alloc bb1.out.size _
            have hgz := bb1.out.size
            go_wp2
            generalize (x1.alloc (.cells #[.int .i64 0, .slice none 0 0] 24)) = x50 at *
            generalize x1.heap.size = gz at *
            refine anyNext_mk ⟨⟨_, nw16.out.later bb50.out⟩, rfl⟩ ?_
            refine anyC_pick1 4 (by kernel_rfl) (by kernel_rfl) ?_
            simp only [pickAll, pickAt, List.nil_append, List.cons_append, List.append_nil]
            go_wp2_with fail
            refine (HT1.out _ _ _ C50.out (E17.out.later bb50.out) (T17.out.later bb50.out)).mono ?_
            rintro e x51 ⟨yv, rfl, hy, bz⟩
            obtain ⟨ya, yc, rfl, _, _, _⟩ := id hy
            have C51 := Hid.mk7 (C50.out.later bz)
            have Z51 := Hid.mk7 (Z50.out.later bz)
            have Y51 := Hid.mk7 hy
            have bb51 : Hid (RowKit.Below u13.heap.size u13 x51) := bb50.out.trans (bz.mono bb50.out.size)
            clear bz hy
            go_wp2
            refine anyNext_mk ⟨⟨_, nw16.out.later bb51.out⟩, rfl⟩ ?_
            refine anyC_pick1 5 (by kernel_rfl) (by kernel_rfl) ?_
            simp only [pickAll, pickAt, List.nil_append, List.cons_append, List.append_nil]
            go_wp2
            refine anyNext_mk ⟨⟨_, nw16.out.later bb51.out⟩, rfl⟩ ?_
            refine anyC_pick2 6 7 (by kernel_rfl) (by kernel_rfl) (by kernel_rfl) ?_ ?_
            · simp only [pickAll, pickAt, List.nil_append, List.cons_append, List.append_nil]
              go_wp2
              refine anyNext_mk ⟨⟨_, nw16.out.later bb51.out⟩, rfl⟩ ?_
              refine anyC_pick2 7 9 (by kernel_rfl) (by kernel_rfl) (by kernel_rfl) ?_ ?_
              · simp only [pickAll, pickAt, List.nil_append, List.cons_append, List.append_nil]
                go_wp2
                refine anyNext_mk ⟨⟨_, nw16.out.later bb51.out⟩, rfl⟩ ?_
                refine anyC_pick1 9 (by kernel_rfl) (by kernel_rfl) ?_
                simp only [pickAll, pickAt, List.nil_append, List.cons_append, List.append_nil]
                have c0 := Z51.out.c0
                have c1 := Z51.out.c1
                have fz := Z51.out.fz
                have c2 : (x51.setCell ⟨gz, 0, none⟩ (.int .i64 n)).cell? ⟨gz, 1, none⟩ = some (.slice none 0 0) := (Z51.out.set0 _).c1
                have fz2 := (Z51.out.set0 (.int .i64 n)).fz
                have Y55 := Hid.mk7 (Y51.out.set_del Z51.out (.int .i64 n) (.slice ya es.length yc))
                have Z55 := Hid.mk7 (Z51.out.set (.int .i64 n) (.slice ya es.length yc))
                have bb55 : Hid (RowKit.Below u13.heap.size u13 ((x51.setCell ⟨gz, 0, none⟩ (.int .i64 n)).setCell ⟨gz, 1, none⟩ (.slice ya es.length yc))) := below_set2 bb51.out hgz _ _
                go_wp2
                clear c0 c1 c2 fz fz2
                generalize ((x51.setCell ⟨gz, 0, none⟩ (.int .i64 n)).setCell ⟨gz, 1, none⟩ (.slice ya es.length yc)) = x55 at *
                refine anyNext_mk ⟨⟨_, nw16.out.later bb55.out⟩, rfl⟩ ?_
                refine anyC_pick1 10 (by kernel_rfl) (by kernel_rfl) ?_
                simp only [pickAll, pickAt, List.nil_append, List.cons_append, List.append_nil]
                go_wp2
                refine anyNext_last (anyC_done (by kernel_rfl) ?_)
                go_wp2
                go_meet
                exact ⟨gz, _, rfl, rfl, Z55, Y55, bb55⟩
              · simp only [pickAll, pickAt, List.nil_append, List.cons_append, List.append_nil]
                have c0 := Z51.out.c0
                have c1 := Z51.out.c1
                have fz := Z51.out.fz
                have c2 : (x51.setCell ⟨gz, 0, none⟩ (.int .i64 n)).cell? ⟨gz, 1, none⟩ = some (.slice none 0 0) := (Z51.out.set0 _).c1
                have fz2 := (Z51.out.set0 (.int .i64 n)).fz
                have Y57 := Hid.mk7 (Y51.out.set_del Z51.out (.int .i64 n) (.slice ya es.length yc))
                have Z57 := Hid.mk7 (Z51.out.set (.int .i64 n) (.slice ya es.length yc))
                have bb57 : Hid (RowKit.Below u13.heap.size u13 ((x51.setCell ⟨gz, 0, none⟩ (.int .i64 n)).setCell ⟨gz, 1, none⟩ (.slice ya es.length yc))) := below_set2 bb51.out hgz _ _
                go_wp2
                clear c0 c1 c2 fz fz2
                generalize ((x51.setCell ⟨gz, 0, none⟩ (.int .i64 n)).setCell ⟨gz, 1, none⟩ (.slice ya es.length yc)) = x57 at *
                refine anyNext_mk ⟨⟨_, nw16.out.later bb57.out⟩, rfl⟩ ?_
                refine anyC_pick1 7 (by kernel_rfl) (by kernel_rfl) ?_
                simp only [pickAll, pickAt, List.nil_append, List.cons_append, List.append_nil]
                go_wp2
                refine anyNext_mk ⟨⟨_, nw16.out.later bb57.out⟩, rfl⟩ ?_
                refine anyC_pick1 10 (by kernel_rfl) (by kernel_rfl) ?_
                simp only [pickAll, pickAt, List.nil_append, List.cons_append, List.append_nil]
                go_wp2
                refine anyNext_last (anyC_done (by kernel_rfl) ?_)
                go_wp2
                go_meet
                exact ⟨gz, _, rfl, rfl, Z57, Y57, bb57⟩
            · simp only [pickAll, pickAt, List.nil_append, List.cons_append, List.append_nil]
              go_wp2
              refine anyNext_mk ⟨⟨_, nw16.out.later bb51.out⟩, rfl⟩ ?_
              refine anyC_pick1 6 (by kernel_rfl) (by kernel_rfl) ?_
              simp only [pickAll, pickAt, List.nil_append, List.cons_append, List.append_nil]
              go_wp2
              refine anyNext_mk ⟨⟨_, nw16.out.later bb51.out⟩, rfl⟩ ?_
              refine anyC_pick1 9 (by kernel_rfl) (by kernel_rfl) ?_
              simp only [pickAll, pickAt, List.nil_append, List.cons_append, List.append_nil]
              have c0 := Z51.out.c0
              have c1 := Z51.out.c1
              have fz := Z51.out.fz
              have c2 : (x51.setCell ⟨gz, 0, none⟩ (.int .i64 n)).cell? ⟨gz, 1, none⟩ = some (.slice none 0 0) := (Z51.out.set0 _).c1
              have fz2 := (Z51.out.set0 (.int .i64 n)).fz
              have Y62 := Hid.mk7 (Y51.out.set_del Z51.out (.int .i64 n) (.slice ya es.length yc))
              have Z62 := Hid.mk7 (Z51.out.set (.int .i64 n) (.slice ya es.length yc))
              have bb62 : Hid (RowKit.Below u13.heap.size u13 ((x51.setCell ⟨gz, 0, none⟩ (.int .i64 n)).setCell ⟨gz, 1, none⟩ (.slice ya es.length yc))) := below_set2 bb51.out hgz _ _
              go_wp2
              clear c0 c1 c2 fz fz2
              generalize ((x51.setCell ⟨gz, 0, none⟩ (.int .i64 n)).setCell ⟨gz, 1, none⟩ (.slice ya es.length yc)) = x62 at *
              refine anyNext_mk ⟨⟨_, nw16.out.later bb62.out⟩, rfl⟩ ?_
              refine anyC_pick1 10 (by kernel_rfl) (by kernel_rfl) ?_
              simp only [pickAll, pickAt, List.nil_append, List.cons_append, List.append_nil]
              go_wp2
              refine anyNext_last (anyC_done (by kernel_rfl) ?_)
              go_wp2
              go_meet
              exact ⟨gz, _, rfl, rfl, Z62, Y62, bb62⟩
        · simp only [pickAll, pickAt, List.nil_append, List.cons_append, List.append_nil]
          have Z64 : Hid (Rd (x0.alloc (.cells #[.int .i64 0, .slice none 0 0] 24)) x0.heap.size (.int .i64 0) (.slice none 0 0)) := Rd.new _ _ _
          have bb64 : Hid (RowKit.Below u13.heap.size u13 (x0.alloc (.cells #[.int .i64 0, .slice none 0 0] 24))) := bb0.out.alloc bb0.out.size _
          have hgz := bb0.out.size
          go_wp2
          generalize (x0.alloc (.cells #[.int .i64 0, .slice none 0 0] 24)) = x64 at *
          generalize x0.heap.size = gz at *
          refine anyNext_mk ⟨⟨_, nw16.out.later bb64.out⟩, rfl⟩ ?_
          refine anyC_pick1 2 (by kernel_rfl) (by kernel_rfl) ?_
          simp only [pickAll, pickAt, List.nil_append, List.cons_append, List.append_nil]
          go_wp2_with fail
          refine (HK1.out _).mono ?_
          rintro e x65 ⟨kv, rfl, hy, bz⟩
          have Z65 := Hid.mk7 (Z64.out.later bz)
          have C65 := Hid.mk7 hy
          have bb65 : Hid (RowKit.Below u13.heap.size u13 x65) := bb64.out.trans (bz.mono bb64.out.size)
          clear bz hy
          go_wp2
          refine anyNext_mk ⟨⟨_, nw16.out.later bb65.out⟩, rfl⟩ ?_
          refine anyC_pick1 4 (by kernel_rfl) (by kernel_rfl) ?_
          simp only [pickAll, pickAt, List.nil_append, List.cons_append, List.append_nil]
          go_wp2_with fail
          refine (HT1.out _ _ _ C65.out (E17.out.later bb65.out) (T17.out.later bb65.out)).mono ?_
          rintro e x66 ⟨yv, rfl, hy, bz⟩
          obtain ⟨ya, yc, rfl, _, _, _⟩ := id hy
          have Z66 := Hid.mk7 (Z65.out.later bz)
          have C66 := Hid.mk7 (C65.out.later bz)
          have Y66 := Hid.mk7 hy
          have bb66 : Hid (RowKit.Below u13.heap.size u13 x66) := bb65.out.trans (bz.mono bb65.out.size)
          clear bz hy
          go_wp2
          refine anyNext_mk ⟨⟨_, nw16.out.later bb66.out⟩, rfl⟩ ?_
          refine anyC_pick1 5 (by kernel_rfl) (by kernel_rfl) ?_
          simp only [pickAll, pickAt, List.nil_append, List.cons_append, List.append_nil]
          go_wp2
          refine anyNext_mk ⟨⟨_, nw16.out.later bb66.out⟩, rfl⟩ ?_
          refine anyC_pick2 6 7 (by kernel_rfl) (by kernel_rfl) (by kernel_rfl) ?_ ?_
          · simp only [pickAll, pickAt, List.nil_append, List.cons_append, List.append_nil]
            go_wp2
            refine anyNext_mk ⟨⟨_, nw16.out.later bb66.out⟩, rfl⟩ ?_
            refine anyC_pick2 7 9 (by kernel_rfl) (by kernel_rfl) (by kernel_rfl) ?_ ?_
            · simp only [pickAll, pickAt, List.nil_append, List.cons_append, List.append_nil]
              go_wp2
              refine anyNext_mk ⟨⟨_, nw16.out.later bb66.out⟩, rfl⟩ ?_
              refine anyC_pick1 9 (by kernel_rfl) (by kernel_rfl) ?_
              simp only [pickAll, pickAt, List.nil_append, List.cons_append, List.append_nil]
              have c0 := Z66.out.c0
              have c1 := Z66.out.c1
              have fz := Z66.out.fz
              have c2 : (x66.setCell ⟨gz, 0, none⟩ (.int .i64 n)).cell? ⟨gz, 1, none⟩ = some (.slice none 0 0) := (Z66.out.set0 _).c1
              have fz2 := (Z66.out.set0 (.int .i64 n)).fz
              have Y70 := Hid.mk7 (Y66.out.set_del Z66.out (.int .i64 n) (.slice ya es.length yc))
              have Z70 := Hid.mk7 (Z66.out.set (.int .i64 n) (.slice ya es.length yc))
              have bb70 : Hid (RowKit.Below u13.heap.size u13 ((x66.setCell ⟨gz, 0, none⟩ (.int .i64 n)).setCell ⟨gz, 1, none⟩ (.slice ya es.length yc))) := below_set2 bb66.out hgz _ _
              go_wp2
              clear c0 c1 c2 fz fz2
              generalize ((x66.setCell ⟨gz, 0, none⟩ (.int .i64 n)).setCell ⟨gz, 1, none⟩ (.slice ya es.length yc)) = x70 at *
              refine anyNext_mk ⟨⟨_, nw16.out.later bb70.out⟩, rfl⟩ ?_
              refine anyC_pick1 10 (by kernel_rfl) (by kernel_rfl) ?_
              simp only [pickAll, pickAt, List.nil_append, List.cons_append, List.append_nil]
              go_wp2
              refine anyNext_last (anyC_done (by kernel_rfl) ?_)
              go_wp2
              go_meet
              exact ⟨gz, _, rfl, rfl, Z70, Y70, bb70⟩
            · simp only [pickAll, pickAt, List.nil_append, List.cons_append, List.append_nil]
              have c0 := Z66.out.c0
              have c1 := Z66.out.c1
              have fz := Z66.out.fz
              have c2 : (x66.setCell ⟨gz, 0, none⟩ (.int .i64 n)).cell? ⟨gz, 1, none⟩ = some (.slice none 0 0) := (Z66.out.set0 _).c1
              have fz2 := (Z66.out.set0 (.int .i64 n)).fz
              have Y72 := Hid.mk7 (Y66.out.set_del Z66.out (.int .i64 n) (.slice ya es.length yc))
              have Z72 := Hid.mk7 (Z66.out.set (.int .i64 n) (.slice ya es.length yc))
              have bb72 : Hid (RowKit.Below u13.heap.size u13 ((x66.setCell ⟨gz, 0, none⟩ (.int .i64 n)).setCell ⟨gz, 1, none⟩ (.slice ya es.length yc))) := below_set2 bb66.out hgz _ _
              go_wp2
              clear c0 c1 c2 fz fz2
              generalize ((x66.setCell ⟨gz, 0, none⟩ (.int .i64 n)).setCell ⟨gz, 1, none⟩ (.slice ya es.length yc)) = x72 at *
              refine anyNext_mk ⟨⟨_, nw16.out.later bb72.out⟩, rfl⟩ ?_
              refine anyC_pick1 7 (by kernel_rfl) (by kernel_rfl) ?_
              simp only [pickAll, pickAt, List.nil_append, List.cons_append, List.append_nil]
              go_wp2
              refine anyNext_mk ⟨⟨_, nw16.out.later bb72.out⟩, rfl⟩ ?_
              refine anyC_pick1 10 (by kernel_rfl) (by kernel_rfl) ?_
              simp only [pickAll, pickAt, List.nil_append, List.cons_append, List.append_nil]
              go_wp2
              refine anyNext_last (anyC_done (by kernel_rfl) ?_)
              go_wp2
              go_meet
              exact ⟨gz, _, rfl, rfl, Z72, Y72, bb72⟩
          · simp only [pickAll, pickAt, List.nil_append, List.cons_append, List.append_nil]
            go_wp2
            refine anyNext_mk ⟨⟨_, nw16.out.later bb66.out⟩, rfl⟩ ?_
            refine anyC_pick1 6 (by kernel_rfl) (by kernel_rfl) ?_
            simp only [pickAll, pickAt, List.nil_append, List.cons_append, List.append_nil]
            go_wp2
            refine anyNext_mk ⟨⟨_, nw16.out.later bb66.out⟩, rfl⟩ ?_
            refine anyC_pick1 9 (by kernel_rfl) (by kernel_rfl) ?_
            simp only [pickAll, pickAt, List.nil_append, List.cons_append, List.append_nil]
            have c0 := Z66.out.c0
            have c1 := Z66.out.c1
            have fz := Z66.out.fz
            have c2 : (x66.setCell ⟨gz, 0, none⟩ (.int .i64 n)).cell? ⟨gz, 1, none⟩ = some (.slice none 0 0) := (Z66.out.set0 _).c1
            have fz2 := (Z66.out.set0 (.int .i64 n)).fz
            have Y77 := Hid.mk7 (Y66.out.set_del Z66.out (.int .i64 n) (.slice ya es.length yc))
            have Z77 := Hid.mk7 (Z66.out.set (.int .i64 n) (.slice ya es.length yc))
            have bb77 : Hid (RowKit.Below u13.heap.size u13 ((x66.setCell ⟨gz, 0, none⟩ (.int .i64 n)).setCell ⟨gz, 1, none⟩ (.slice ya es.length yc))) := below_set2 bb66.out hgz _ _
            go_wp2
            clear c0 c1 c2 fz fz2
            generalize ((x66.setCell ⟨gz, 0, none⟩ (.int .i64 n)).setCell ⟨gz, 1, none⟩ (.slice ya es.length yc)) = x77 at *
            refine anyNext_mk ⟨⟨_, nw16.out.later bb77.out⟩, rfl⟩ ?_
            refine anyC_pick1 10 (by kernel_rfl) (by kernel_rfl) ?_
            simp only [pickAll, pickAt, List.nil_append, List.cons_append, List.append_nil]
            go_wp2
            refine anyNext_last (anyC_done (by kernel_rfl) ?_)
            go_wp2
            go_meet
            exact ⟨gz, _, rfl, rfl, Z77, Y77, bb77⟩
      case rest =>
        generalize wc = yA at *
        obtain ⟨gA, yv, rfl, rfl, RZA, HYA, BBA⟩ := hcut
        obtain ⟨Aa, Ac, rfl, _, _, _⟩ := id HYA.out
        have bz := BBA.out
        have L18 := Hid.mk7 (L17.out.later bz)
        have T18 := Hid.mk7 (T17.out.later bz)
        have G18 := Hid.mk7 (G17.out.trans (bz.mono G17.out.size))
        have E18 := Hid.mk7 (E17.out.later bz)
        have RE18 := Hid.mk7 (nw16.out.later bz)
        clear L17 T17 G17 E17 nw16 bz
        have REc0 := RE18.out.c0
        have REc1 := RE18.out.c1
        have RAc0 := RZA.out.c0
        have RAc1 := RZA.out.c1
        go_upto_region 14 with fail
        clear REc0 REc1 RAc0 RAc1
        go_cut [10, 11] from 51 to 58 (fun s9 s10 yB => ∃ (gz : Nat) (yv : Value), s9 = .pointer (some ⟨gz, 0, none⟩) ∧ s10 = .int .i64 0 ∧ Hid (Rd yB gz (.int .i64 n) yv) ∧ Hid (ElAt yB yv es) ∧ Hid (RowKit.Below yA.heap.size yA yB))
        case first =>
          refine wp_region_turns (fun w' => ∃ q : (GW (fun W => Rd W gd (.int .i64 n) (.slice ea es.length ec))), w' = q.w) [0, 1] 10 9 (by kernel_rfl) (by kernel_rfl) (fun d => ⟨⟨redrawn yA d, RE18.out.later (below_redrawnE yA d)⟩, rfl⟩) ?_
          intro d
          have k0 : ∀ q : (GW (fun W => Rd W gd (.int .i64 n) (.slice ea es.length ec))), q.w.cell? ⟨gd, 0, none⟩ = some (.int .i64 n) := fun q => q.h.c0
          have k1 : ∀ q : (GW (fun W => Rd W gd (.int .i64 n) (.slice ea es.length ec))), q.w.cell? ⟨gd, 1, none⟩ = some (.slice ea es.length ec) := fun q => q.h.c1
          simp only [pickAll, pickAt, List.nil_append, List.cons_append, List.append_nil]
          have hne : Nonempty (GW (fun W => Rd W gd (.int .i64 n) (.slice ea es.length ec))) := ⟨⟨yA, RE18.out⟩⟩
          repeat (go_big_quiet_step (fail))
          refine wpQuiet_nil ?_
          clear hne k0 k1
          have bb0 := Hid.mk7 (below_redrawnE yA d)
          generalize redrawn yA d = x0 at *
          refine anyC_pick2 2 8 (by kernel_rfl) (by kernel_rfl) (by kernel_rfl) ?_ ?_
          · simp only [pickAll, pickAt, List.nil_append, List.cons_append, List.append_nil]
            go_wp2_with fail
            refine (HSZ.out _ _ (E18.out.later bb0.out) (T18.out.later bb0.out)).mono ?_
            rintro e x1 ⟨rfl, bz⟩
            have bb1 : Hid (RowKit.Below yA.heap.size yA x1) := bb0.out.trans (bz.mono bb0.out.size)
            clear bz
            go_wp2
            refine anyNext_mk ⟨⟨_, RE18.out.later bb1.out⟩, rfl⟩ ?_
            refine anyC_pick2 3 8 (by kernel_rfl) (by kernel_rfl) (by kernel_rfl) ?_ ?_
            · simp only [pickAll, pickAt, List.nil_append, List.cons_append, List.append_nil]
              go_wp2_with fail
              refine (HK2.out _).mono ?_
              rintro e x2 ⟨kv, rfl, hy, bz⟩
              have C2 := Hid.mk7 hy
              have bb2 : Hid (RowKit.Below yA.heap.size yA x2) := bb1.out.trans (bz.mono bb1.out.size)
              clear bz hy
              go_wp2
              refine anyNext_mk ⟨⟨_, RE18.out.later bb2.out⟩, rfl⟩ ?_
              refine anyC_pick2 4 8 (by kernel_rfl) (by kernel_rfl) (by kernel_rfl) ?_ ?_
              · simp only [pickAll, pickAt, List.nil_append, List.cons_append, List.append_nil]
                go_wp2_with fail
                refine (HT2.out _ _ _ (E18.out.later bb2.out) C2.out (T18.out.later bb2.out)).mono ?_
                rintro e x3 ⟨yv, rfl, hy, bz⟩
                obtain ⟨ya, yc, rfl, _, _, _⟩ := id hy
                have C3 := Hid.mk7 (C2.out.later bz)
                have Y3 := Hid.mk7 hy
                have bb3 : Hid (RowKit.Below yA.heap.size yA x3) := bb2.out.trans (bz.mono bb2.out.size)
                clear bz hy
                go_wp2
                refine anyNext_mk ⟨⟨_, RE18.out.later bb3.out⟩, rfl⟩ ?_
                refine anyC_pick2 5 8 (by kernel_rfl) (by kernel_rfl) (by kernel_rfl) ?_ ?_
                · simp only [pickAll, pickAt, List.nil_append, List.cons_append, List.append_nil]
                  go_wp2
                  refine anyNext_mk ⟨⟨_, RE18.out.later bb3.out⟩, rfl⟩ ?_
                  refine anyC_pick3F 6 7 8 (by kernel_rfl) (by kernel_rfl) (by kernel_rfl) (by kernel_rfl) ?_ ?_ ?_
                  · simp only [pickAll, pickAt, List.nil_append, List.cons_append, List.append_nil]
                    go_wp2
                    refine anyNext_mk ⟨⟨_, RE18.out.later bb3.out⟩, rfl⟩ ?_
                    refine anyC_pick2 7 8 (by kernel_rfl) (by kernel_rfl) (by kernel_rfl) ?_ ?_
                    · simp only [pickAll, pickAt, List.nil_append, List.cons_append, List.append_nil]
                      go_wp2
                      refine anyNext_mk ⟨⟨_, RE18.out.later bb3.out⟩, rfl⟩ ?_
                      refine anyC_pick1 8 (by kernel_rfl) (by kernel_rfl) ?_
                      simp only [pickAll, pickAt, List.nil_append, List.cons_append, List.append_nil]
                      have C7 := Hid.mk7 (C3.out.later (below_newE (RowKit.Below.refl _ _) (.cells #[.int .i64 0, .slice none 0 0] 24)))
                      have Y7 := Hid.mk7 (Y3.out.later (below_newE (RowKit.Below.refl _ _) (.cells #[.int .i64 0, .slice none 0 0] 24)))
                      have Z7 : Hid (Rd (x3.alloc (.cells #[.int .i64 0, .slice none 0 0] 24)) x3.heap.size (.int .i64 0) (.slice none 0 0)) := Rd.new _ _ _
                      have bb7 : Hid (RowKit.Below yA.heap.size yA (x3.alloc (.cells #[.int .i64 0, .slice none 0 0] 24))) := bb3.out.alloc bb3.out.size _
                      have hgz := bb3.out.size
                      go_wp2
                      generalize (x3.alloc (.cells #[.int .i64 0, .slice none 0 0] 24)) = x7 at *
                      generalize x3.heap.size = gz at *
                      refine anyNext_mk ⟨⟨_, RE18.out.later bb7.out⟩, rfl⟩ ?_
                      refine anyC_pick1 9 (by kernel_rfl) (by kernel_rfl) ?_
                      simp only [pickAll, pickAt, List.nil_append, List.cons_append, List.append_nil]
                      have c0 := Z7.out.c0
                      have c1 := Z7.out.c1
                      have fz := Z7.out.fz
                      have c2 : (x7.setCell ⟨gz, 0, none⟩ (.int .i64 n)).cell? ⟨gz, 1, none⟩ = some (.slice none 0 0) := (Z7.out.set0 _).c1
                      have fz2 := (Z7.out.set0 (.int .i64 n)).fz
                      have Y8 := Hid.mk7 (Y7.out.set_del Z7.out (.int .i64 n) (.slice ya es.length yc))
                      have Z8 := Hid.mk7 (Z7.out.set (.int .i64 n) (.slice ya es.length yc))
                      have bb8 : Hid (RowKit.Below yA.heap.size yA ((x7.setCell ⟨gz, 0, none⟩ (.int .i64 n)).setCell ⟨gz, 1, none⟩ (.slice ya es.length yc))) := below_set2 bb7.out hgz _ _
                      go_wp2
                      clear c0 c1 c2 fz fz2
                      generalize ((x7.setCell ⟨gz, 0, none⟩ (.int .i64 n)).setCell ⟨gz, 1, none⟩ (.slice ya es.length yc)) = x8 at *
                      refine anyNext_mk ⟨⟨_, RE18.out.later bb8.out⟩, rfl⟩ ?_
                      refine anyC_pick1 10 (by kernel_rfl) (by kernel_rfl) ?_
                      simp only [pickAll, pickAt, List.nil_append, List.cons_append, List.append_nil]
                      go_wp2
                      refine anyNext_last (anyC_done (by kernel_rfl) ?_)
                      go_wp2
                      go_meet
                      exact ⟨gz, _, rfl, rfl, Z8, Y8, bb8⟩
                    · simp only [pickAll, pickAt, List.nil_append, List.cons_append, List.append_nil]
                      have C10 := Hid.mk7 (C3.out.later (below_newE (RowKit.Below.refl _ _) (.cells #[.int .i64 0, .slice none 0 0] 24)))
                      have Y10 := Hid.mk7 (Y3.out.later (below_newE (RowKit.Below.refl _ _) (.cells #[.int .i64 0, .slice none 0 0] 24)))
                      have Z10 : Hid (Rd (x3.alloc (.cells #[.int .i64 0, .slice none 0 0] 24)) x3.heap.size (.int .i64 0) (.slice none 0 0)) := Rd.new _ _ _
                      have bb10 : Hid (RowKit.Below yA.heap.size yA (x3.alloc (.cells #[.int .i64 0, .slice none 0 0] 24))) := bb3.out.alloc bb3.out.size _
                      have hgz := bb3.out.size
                      go_wp2
                      generalize (x3.alloc (.cells #[.int .i64 0, .slice none 0 0] 24)) = x10 at *
                      generalize x3.heap.size = gz at *
                      refine anyNext_mk ⟨⟨_, RE18.out.later bb10.out⟩, rfl⟩ ?_
                      refine anyC_pick2 7 9 (by kernel_rfl) (by kernel_rfl) (by kernel_rfl) ?_ ?_
                      · simp only [pickAll, pickAt, List.nil_append, List.cons_append, List.append_nil]
                        go_wp2
                        refine anyNext_mk ⟨⟨_, RE18.out.later bb10.out⟩, rfl⟩ ?_
                        refine anyC_pick1 9 (by kernel_rfl) (by kernel_rfl) ?_
                        simp only [pickAll, pickAt, List.nil_append, List.cons_append, List.append_nil]
                        have c0 := Z10.out.c0
                        have c1 := Z10.out.c1
                        have fz := Z10.out.fz
                        have c2 : (x10.setCell ⟨gz, 0, none⟩ (.int .i64 n)).cell? ⟨gz, 1, none⟩ = some (.slice none 0 0) := (Z10.out.set0 _).c1
                        have fz2 := (Z10.out.set0 (.int .i64 n)).fz
                        have Y12 := Hid.mk7 (Y10.out.set_del Z10.out (.int .i64 n) (.slice ya es.length yc))
                        have Z12 := Hid.mk7 (Z10.out.set (.int .i64 n) (.slice ya es.length yc))
                        have bb12 : Hid (RowKit.Below yA.heap.size yA ((x10.setCell ⟨gz, 0, none⟩ (.int .i64 n)).setCell ⟨gz, 1, none⟩ (.slice ya es.length yc))) := below_set2 bb10.out hgz _ _
                        go_wp2
                        clear c0 c1 c2 fz fz2
                        generalize ((x10.setCell ⟨gz, 0, none⟩ (.int .i64 n)).setCell ⟨gz, 1, none⟩ (.slice ya es.length yc)) = x12 at *
                        refine anyNext_mk ⟨⟨_, RE18.out.later bb12.out⟩, rfl⟩ ?_
                        refine anyC_pick1 10 (by kernel_rfl) (by kernel_rfl) ?_
                        simp only [pickAll, pickAt, List.nil_append, List.cons_append, List.append_nil]
                        go_wp2
                        refine anyNext_last (anyC_done (by kernel_rfl) ?_)
                        go_wp2
                        go_meet
                        exact ⟨gz, _, rfl, rfl, Z12, Y12, bb12⟩
                      · simp only [pickAll, pickAt, List.nil_append, List.cons_append, List.append_nil]
                        have c0 := Z10.out.c0
                        have c1 := Z10.out.c1
                        have fz := Z10.out.fz
                        have c2 : (x10.setCell ⟨gz, 0, none⟩ (.int .i64 n)).cell? ⟨gz, 1, none⟩ = some (.slice none 0 0) := (Z10.out.set0 _).c1
                        have fz2 := (Z10.out.set0 (.int .i64 n)).fz
                        have Y14 := Hid.mk7 (Y10.out.set_del Z10.out (.int .i64 n) (.slice ya es.length yc))
                        have Z14 := Hid.mk7 (Z10.out.set (.int .i64 n) (.slice ya es.length yc))
                        have bb14 : Hid (RowKit.Below yA.heap.size yA ((x10.setCell ⟨gz, 0, none⟩ (.int .i64 n)).setCell ⟨gz, 1, none⟩ (.slice ya es.length yc))) := below_set2 bb10.out hgz _ _
                        go_wp2
                        clear c0 c1 c2 fz fz2
                        generalize ((x10.setCell ⟨gz, 0, none⟩ (.int .i64 n)).setCell ⟨gz, 1, none⟩ (.slice ya es.length yc)) = x14 at *
                        refine anyNext_mk ⟨⟨_, RE18.out.later bb14.out⟩, rfl⟩ ?_
                        refine anyC_pick1 7 (by kernel_rfl) (by kernel_rfl) ?_
                        simp only [pickAll, pickAt, List.nil_append, List.cons_append, List.append_nil]
                        go_wp2
                        refine anyNext_mk ⟨⟨_, RE18.out.later bb14.out⟩, rfl⟩ ?_
                        refine anyC_pick1 10 (by kernel_rfl) (by kernel_rfl) ?_
                        simp only [pickAll, pickAt, List.nil_append, List.cons_append, List.append_nil]
                        go_wp2
                        refine anyNext_last (anyC_done (by kernel_rfl) ?_)
                        go_wp2
                        go_meet
                        exact ⟨gz, _, rfl, rfl, Z14, Y14, bb14⟩
                  · simp only [pickAll, pickAt, List.nil_append, List.cons_append, List.append_nil]
                    go_wp2
                    refine anyNext_mk ⟨⟨_, RE18.out.later bb3.out⟩, rfl⟩ ?_
                    refine anyC_pick2 6 8 (by kernel_rfl) (by kernel_rfl) (by kernel_rfl) ?_ ?_
                    · simp only [pickAll, pickAt, List.nil_append, List.cons_append, List.append_nil]
                      go_wp2
                      refine anyNext_mk ⟨⟨_, RE18.out.later bb3.out⟩, rfl⟩ ?_
                      refine anyC_pick1 8 (by kernel_rfl) (by kernel_rfl) ?_
                      simp only [pickAll, pickAt, List.nil_append, List.cons_append, List.append_nil]
                      have C19 := Hid.mk7 (C3.out.later (below_newE (RowKit.Below.refl _ _) (.cells #[.int .i64 0, .slice none 0 0] 24)))
                      have Y19 := Hid.mk7 (Y3.out.later (below_newE (RowKit.Below.refl _ _) (.cells #[.int .i64 0, .slice none 0 0] 24)))
                      have Z19 : Hid (Rd (x3.alloc (.cells #[.int .i64 0, .slice none 0 0] 24)) x3.heap.size (.int .i64 0) (.slice none 0 0)) := Rd.new _ _ _
                      have bb19 : Hid (RowKit.Below yA.heap.size yA (x3.alloc (.cells #[.int .i64 0, .slice none 0 0] 24))) := bb3.out.alloc bb3.out.size _
                      have hgz := bb3.out.size
                      go_wp2
                      generalize (x3.alloc (.cells #[.int .i64 0, .slice none 0 0] 24)) = x19 at *
                      generalize x3.heap.size = gz at *
                      refine anyNext_mk ⟨⟨_, RE18.out.later bb19.out⟩, rfl⟩ ?_
                      refine anyC_pick1 9 (by kernel_rfl) (by kernel_rfl) ?_
                      simp only [pickAll, pickAt, List.nil_append, List.cons_append, List.append_nil]
                      have c0 := Z19.out.c0
                      have c1 := Z19.out.c1
                      have fz := Z19.out.fz
                      have c2 : (x19.setCell ⟨gz, 0, none⟩ (.int .i64 n)).cell? ⟨gz, 1, none⟩ = some (.slice none 0 0) := (Z19.out.set0 _).c1
                      have fz2 := (Z19.out.set0 (.int .i64 n)).fz
                      have Y20 := Hid.mk7 (Y19.out.set_del Z19.out (.int .i64 n) (.slice ya es.length yc))
                      have Z20 := Hid.mk7 (Z19.out.set (.int .i64 n) (.slice ya es.length yc))
                      have bb20 : Hid (RowKit.Below yA.heap.size yA ((x19.setCell ⟨gz, 0, none⟩ (.int .i64 n)).setCell ⟨gz, 1, none⟩ (.slice ya es.length yc))) := below_set2 bb19.out hgz _ _
                      go_wp2
                      clear c0 c1 c2 fz fz2
                      generalize ((x19.setCell ⟨gz, 0, none⟩ (.int .i64 n)).setCell ⟨gz, 1, none⟩ (.slice ya es.length yc)) = x20 at *
                      refine anyNext_mk ⟨⟨_, RE18.out.later bb20.out⟩, rfl⟩ ?_
                      refine anyC_pick1 10 (by kernel_rfl) (by kernel_rfl) ?_
                      simp only [pickAll, pickAt, List.nil_append, List.cons_append, List.append_nil]
                      go_wp2
                      refine anyNext_last (anyC_done (by kernel_rfl) ?_)
                      go_wp2
                      go_meet
                      exact ⟨gz, _, rfl, rfl, Z20, Y20, bb20⟩
                    · simp only [pickAll, pickAt, List.nil_append, List.cons_append, List.append_nil]
                      have C22 := Hid.mk7 (C3.out.later (below_newE (RowKit.Below.refl _ _) (.cells #[.int .i64 0, .slice none 0 0] 24)))
                      have Y22 := Hid.mk7 (Y3.out.later (below_newE (RowKit.Below.refl _ _) (.cells #[.int .i64 0, .slice none 0 0] 24)))
                      have Z22 : Hid (Rd (x3.alloc (.cells #[.int .i64 0, .slice none 0 0] 24)) x3.heap.size (.int .i64 0) (.slice none 0 0)) := Rd.new _ _ _
                      have bb22 : Hid (RowKit.Below yA.heap.size yA (x3.alloc (.cells #[.int .i64 0, .slice none 0 0] 24))) := bb3.out.alloc bb3.out.size _
                      have hgz := bb3.out.size
                      go_wp2
                      generalize (x3.alloc (.cells #[.int .i64 0, .slice none 0 0] 24)) = x22 at *
                      generalize x3.heap.size = gz at *
                      refine anyNext_mk ⟨⟨_, RE18.out.later bb22.out⟩, rfl⟩ ?_
                      refine anyC_pick1 6 (by kernel_rfl) (by kernel_rfl) ?_
                      simp only [pickAll, pickAt, List.nil_append, List.cons_append, List.append_nil]
                      go_wp2
                      refine anyNext_mk ⟨⟨_, RE18.out.later bb22.out⟩, rfl⟩ ?_
                      refine anyC_pick1 9 (by kernel_rfl) (by kernel_rfl) ?_
                      simp only [pickAll, pickAt, List.nil_append, List.cons_append, List.append_nil]
                      have c0 := Z22.out.c0
                      have c1 := Z22.out.c1
                      have fz := Z22.out.fz
                      have c2 : (x22.setCell ⟨gz, 0, none⟩ (.int .i64 n)).cell? ⟨gz, 1, none⟩ = some (.slice none 0 0) := (Z22.out.set0 _).c1
                      have fz2 := (Z22.out.set0 (.int .i64 n)).fz
                      have Y24 := Hid.mk7 (Y22.out.set_del Z22.out (.int .i64 n) (.slice ya es.length yc))
                      have Z24 := Hid.mk7 (Z22.out.set (.int .i64 n) (.slice ya es.length yc))
                      have bb24 : Hid (RowKit.Below yA.heap.size yA ((x22.setCell ⟨gz, 0, none⟩ (.int .i64 n)).setCell ⟨gz, 1, none⟩ (.slice ya es.length yc))) := below_set2 bb22.out hgz _ _
                      go_wp2
                      clear c0 c1 c2 fz fz2
                      generalize ((x22.setCell ⟨gz, 0, none⟩ (.int .i64 n)).setCell ⟨gz, 1, none⟩ (.slice ya es.length yc)) = x24 at *
                      refine anyNext_mk ⟨⟨_, RE18.out.later bb24.out⟩, rfl⟩ ?_
                      refine anyC_pick1 10 (by kernel_rfl) (by kernel_rfl) ?_
                      simp only [pickAll, pickAt, List.nil_append, List.cons_append, List.append_nil]
                      go_wp2
                      refine anyNext_last (anyC_done (by kernel_rfl) ?_)
                      go_wp2
                      go_meet
                      exact ⟨gz, _, rfl, rfl, Z24, Y24, bb24⟩
                  · simp only [pickAll, pickAt, List.nil_append, List.cons_append, List.append_nil]
                    have C26 := Hid.mk7 (C3.out.later (below_newE (RowKit.Below.refl _ _) (.cells #[.int .i64 0, .slice none 0 0] 24)))
                    have Y26 := Hid.mk7 (Y3.out.later (below_newE (RowKit.Below.refl _ _) (.cells #[.int .i64 0, .slice none 0 0] 24)))
                    have Z26 : Hid (Rd (x3.alloc (.cells #[.int .i64 0, .slice none 0 0] 24)) x3.heap.size (.int .i64 0) (.slice none 0 0)) := Rd.new _ _ _
                    have bb26 : Hid (RowKit.Below yA.heap.size yA (x3.alloc (.cells #[.int .i64 0, .slice none 0 0] 24))) := bb3.out.alloc bb3.out.size _
                    have hgz := bb3.out.size
                    go_wp2
                    generalize (x3.alloc (.cells #[.int .i64 0, .slice none 0 0] 24)) = x26 at *
                    generalize x3.heap.size = gz at *
                    refine anyNext_mk ⟨⟨_, RE18.out.later bb26.out⟩, rfl⟩ ?_
                    refine anyC_pick2 6 7 (by kernel_rfl) (by kernel_rfl) (by kernel_rfl) ?_ ?_
                    · simp only [pickAll, pickAt, List.nil_append, List.cons_append, List.append_nil]
                      go_wp2
                      refine anyNext_mk ⟨⟨_, RE18.out.later bb26.out⟩, rfl⟩ ?_
                      refine anyC_pick2 7 9 (by kernel_rfl) (by kernel_rfl) (by kernel_rfl) ?_ ?_
                      · simp only [pickAll, pickAt, List.nil_append, List.cons_append, List.append_nil]
                        go_wp2
                        refine anyNext_mk ⟨⟨_, RE18.out.later bb26.out⟩, rfl⟩ ?_
                        refine anyC_pick1 9 (by kernel_rfl) (by kernel_rfl) ?_
                        simp only [pickAll, pickAt, List.nil_append, List.cons_append, List.append_nil]
                        have c0 := Z26.out.c0
                        have c1 := Z26.out.c1
                        have fz := Z26.out.fz
                        have c2 : (x26.setCell ⟨gz, 0, none⟩ (.int .i64 n)).cell? ⟨gz, 1, none⟩ = some (.slice none 0 0) := (Z26.out.set0 _).c1
                        have fz2 := (Z26.out.set0 (.int .i64 n)).fz
                        have Y29 := Hid.mk7 (Y26.out.set_del Z26.out (.int .i64 n) (.slice ya es.length yc))
                        have Z29 := Hid.mk7 (Z26.out.set (.int .i64 n) (.slice ya es.length yc))
                        have bb29 : Hid (RowKit.Below yA.heap.size yA ((x26.setCell ⟨gz, 0, none⟩ (.int .i64 n)).setCell ⟨gz, 1, none⟩ (.slice ya es.length yc))) := below_set2 bb26.out hgz _ _
                        go_wp2
                        clear c0 c1 c2 fz fz2
                        generalize ((x26.setCell ⟨gz, 0, none⟩ (.int .i64 n)).setCell ⟨gz, 1, none⟩ (.slice ya es.length yc)) = x29 at *
                        refine anyNext_mk ⟨⟨_, RE18.out.later bb29.out⟩, rfl⟩ ?_
                        refine anyC_pick1 10 (by kernel_rfl) (by kernel_rfl) ?_
                        simp only [pickAll, pickAt, List.nil_append, List.cons_append, List.append_nil]
                        go_wp2
                        refine anyNext_last (anyC_done (by kernel_rfl) ?_)
                        go_wp2
                        go_meet
                        exact ⟨gz, _, rfl, rfl, Z29, Y29, bb29⟩
                      · simp only [pickAll, pickAt, List.nil_append, List.cons_append, List.append_nil]
                        have c0 := Z26.out.c0
                        have c1 := Z26.out.c1
                        have fz := Z26.out.fz
                        have c2 : (x26.setCell ⟨gz, 0, none⟩ (.int .i64 n)).cell? ⟨gz, 1, none⟩ = some (.slice none 0 0) := (Z26.out.set0 _).c1
                        have fz2 := (Z26.out.set0 (.int .i64 n)).fz
                        have Y31 := Hid.mk7 (Y26.out.set_del Z26.out (.int .i64 n) (.slice ya es.length yc))
                        have Z31 := Hid.mk7 (Z26.out.set (.int .i64 n) (.slice ya es.length yc))
                        have bb31 : Hid (RowKit.Below yA.heap.size yA ((x26.setCell ⟨gz, 0, none⟩ (.int .i64 n)).setCell ⟨gz, 1, none⟩ (.slice ya es.length yc))) := below_set2 bb26.out hgz _ _
                        go_wp2
                        clear c0 c1 c2 fz fz2
                        generalize ((x26.setCell ⟨gz, 0, none⟩ (.int .i64 n)).setCell ⟨gz, 1, none⟩ (.slice ya es.length yc)) = x31 at *
                        refine anyNext_mk ⟨⟨_, RE18.out.later bb31.out⟩, rfl⟩ ?_
                        refine anyC_pick1 7 (by kernel_rfl) (by kernel_rfl) ?_
                        simp only [pickAll, pickAt, List.nil_append, List.cons_append, List.append_nil]
                        go_wp2
                        refine anyNext_mk ⟨⟨_, RE18.out.later bb31.out⟩, rfl⟩ ?_
                        refine anyC_pick1 10 (by kernel_rfl) (by kernel_rfl) ?_
                        simp only [pickAll, pickAt, List.nil_append, List.cons_append, List.append_nil]
                        go_wp2
                        refine anyNext_last (anyC_done (by kernel_rfl) ?_)
                        go_wp2
                        go_meet
                        exact ⟨gz, _, rfl, rfl, Z31, Y31, bb31⟩
                    · simp only [pickAll, pickAt, List.nil_append, List.cons_append, List.append_nil]
                      go_wp2
                      refine anyNext_mk ⟨⟨_, RE18.out.later bb26.out⟩, rfl⟩ ?_
                      refine anyC_pick1 6 (by kernel_rfl) (by kernel_rfl) ?_
                      simp only [pickAll, pickAt, List.nil_append, List.cons_append, List.append_nil]
                      go_wp2
                      refine anyNext_mk ⟨⟨_, RE18.out.later bb26.out⟩, rfl⟩ ?_
                      refine anyC_pick1 9 (by kernel_rfl) (by kernel_rfl) ?_
                      simp only [pickAll, pickAt, List.nil_append, List.cons_append, List.append_nil]
                      have c0 := Z26.out.c0
                      have c1 := Z26.out.c1
                      have fz := Z26.out.fz
                      have c2 : (x26.setCell ⟨gz, 0, none⟩ (.int .i64 n)).cell? ⟨gz, 1, none⟩ = some (.slice none 0 0) := (Z26.out.set0 _).c1
                      have fz2 := (Z26.out.set0 (.int .i64 n)).fz
                      have Y36 := Hid.mk7 (Y26.out.set_del Z26.out (.int .i64 n) (.slice ya es.length yc))
                      have Z36 := Hid.mk7 (Z26.out.set (.int .i64 n) (.slice ya es.length yc))
                      have bb36 : Hid (RowKit.Below yA.heap.size yA ((x26.setCell ⟨gz, 0, none⟩ (.int .i64 n)).setCell ⟨gz, 1, none⟩ (.slice ya es.length yc))) := below_set2 bb26.out hgz _ _
                      go_wp2
                      clear c0 c1 c2 fz fz2
                      generalize ((x26.setCell ⟨gz, 0, none⟩ (.int .i64 n)).setCell ⟨gz, 1, none⟩ (.slice ya es.length yc)) = x36 at *
                      refine anyNext_mk ⟨⟨_, RE18.out.later bb36.out⟩, rfl⟩ ?_
                      refine anyC_pick1 10 (by kernel_rfl) (by kernel_rfl) ?_
                      simp only [pickAll, pickAt, List.nil_append, List.cons_append, List.append_nil]
                      go_wp2
                      refine anyNext_last (anyC_done (by kernel_rfl) ?_)
                      go_wp2
                      go_meet
                      exact ⟨gz, _, rfl, rfl, Z36, Y36, bb36⟩
                · simp only [pickAll, pickAt, List.nil_append, List.cons_append, List.append_nil]
                  have C38 := Hid.mk7 (C3.out.later (below_newE (RowKit.Below.refl _ _) (.cells #[.int .i64 0, .slice none 0 0] 24)))
                  have Y38 := Hid.mk7 (Y3.out.later (below_newE (RowKit.Below.refl _ _) (.cells #[.int .i64 0, .slice none 0 0] 24)))
                  have Z38 : Hid (Rd (x3.alloc (.cells #[.int .i64 0, .slice none 0 0] 24)) x3.heap.size (.int .i64 0) (.slice none 0 0)) := Rd.new _ _ _
                  have bb38 : Hid (RowKit.Below yA.heap.size yA (x3.alloc (.cells #[.int .i64 0, .slice none 0 0] 24))) := bb3.out.alloc bb3.out.size _
                  have hgz := bb3.out.size
                  go_wp2
                  generalize (x3.alloc (.cells #[.int .i64 0, .slice none 0 0] 24)) = x38 at *
                  generalize x3.heap.size = gz at *
                  refine anyNext_mk ⟨⟨_, RE18.out.later bb38.out⟩, rfl⟩ ?_
                  refine anyC_pick1 5 (by kernel_rfl) (by kernel_rfl) ?_
                  simp only [pickAll, pickAt, List.nil_append, List.cons_append, List.append_nil]
                  go_wp2
                  refine anyNext_mk ⟨⟨_, RE18.out.later bb38.out⟩, rfl⟩ ?_
                  refine anyC_pick2 6 7 (by kernel_rfl) (by kernel_rfl) (by kernel_rfl) ?_ ?_
                  · simp only [pickAll, pickAt, List.nil_append, List.cons_append, List.append_nil]
                    go_wp2
                    refine anyNext_mk ⟨⟨_, RE18.out.later bb38.out⟩, rfl⟩ ?_
                    refine anyC_pick2 7 9 (by kernel_rfl) (by kernel_rfl) (by kernel_rfl) ?_ ?_
                    · simp only [pickAll, pickAt, List.nil_append, List.cons_append, List.append_nil]
                      go_wp2
                      refine anyNext_mk ⟨⟨_, RE18.out.later bb38.out⟩, rfl⟩ ?_
                      refine anyC_pick1 9 (by kernel_rfl) (by kernel_rfl) ?_
                      simp only [pickAll, pickAt, List.nil_append, List.cons_append, List.append_nil]
                      have c0 := Z38.out.c0
                      have c1 := Z38.out.c1
                      have fz := Z38.out.fz
                      have c2 : (x38.setCell ⟨gz, 0, none⟩ (.int .i64 n)).cell? ⟨gz, 1, none⟩ = some (.slice none 0 0) := (Z38.out.set0 _).c1
                      have fz2 := (Z38.out.set0 (.int .i64 n)).fz
                      have Y42 := Hid.mk7 (Y38.out.set_del Z38.out (.int .i64 n) (.slice ya es.length yc))
                      have Z42 := Hid.mk7 (Z38.out.set (.int .i64 n) (.slice ya es.length yc))
                      have bb42 : Hid (RowKit.Below yA.heap.size yA ((x38.setCell ⟨gz, 0, none⟩ (.int .i64 n)).setCell ⟨gz, 1, none⟩ (.slice ya es.length yc))) := below_set2 bb38.out hgz _ _
                      go_wp2
                      clear c0 c1 c2 fz fz2
                      generalize ((x38.setCell ⟨gz, 0, none⟩ (.int .i64 n)).setCell ⟨gz, 1, none⟩ (.slice ya es.length yc)) = x42 at *
                      refine anyNext_mk ⟨⟨_, RE18.out.later bb42.out⟩, rfl⟩ ?_
                      refine anyC_pick1 10 (by kernel_rfl) (by kernel_rfl) ?_
                      simp only [pickAll, pickAt, List.nil_append, List.cons_append, List.append_nil]
                      go_wp2
                      refine anyNext_last (anyC_done (by kernel_rfl) ?_)
                      go_wp2
                      go_meet
                      exact ⟨gz, _, rfl, rfl, Z42, Y42, bb42⟩
                    · simp only [pickAll, pickAt, List.nil_append, List.cons_append, List.append_nil]
                      have c0 := Z38.out.c0
                      have c1 := Z38.out.c1
                      have fz := Z38.out.fz
                      have c2 : (x38.setCell ⟨gz, 0, none⟩ (.int .i64 n)).cell? ⟨gz, 1, none⟩ = some (.slice none 0 0) := (Z38.out.set0 _).c1
                      have fz2 := (Z38.out.set0 (.int .i64 n)).fz
                      have Y44 := Hid.mk7 (Y38.out.set_del Z38.out (.int .i64 n) (.slice ya es.length yc))
                      have Z44 := Hid.mk7 (Z38.out.set (.int .i64 n) (.slice ya es.length yc))
                      have bb44 : Hid (RowKit.Below yA.heap.size yA ((x38.setCell ⟨gz, 0, none⟩ (.int .i64 n)).setCell ⟨gz, 1, none⟩ (.slice ya es.length yc))) := below_set2 bb38.out hgz _ _
                      go_wp2
                      clear c0 c1 c2 fz fz2
                      generalize ((x38.setCell ⟨gz, 0, none⟩ (.int .i64 n)).setCell ⟨gz, 1, none⟩ (.slice ya es.length yc)) = x44 at *
                      refine anyNext_mk ⟨⟨_, RE18.out.later bb44.out⟩, rfl⟩ ?_
                      refine anyC_pick1 7 (by kernel_rfl) (by kernel_rfl) ?_
                      simp only [pickAll, pickAt, List.nil_append, List.cons_append, List.append_nil]
                      go_wp2
                      refine anyNext_mk ⟨⟨_, RE18.out.later bb44.out⟩, rfl⟩ ?_
                      refine anyC_pick1 10 (by kernel_rfl) (by kernel_rfl) ?_
                      simp only [pickAll, pickAt, List.nil_append, List.cons_append, List.append_nil]
                      go_wp2
                      refine anyNext_last (anyC_done (by kernel_rfl) ?_)
                      go_wp2
                      go_meet
                      exact ⟨gz, _, rfl, rfl, Z44, Y44, bb44⟩
                  · simp only [pickAll, pickAt, List.nil_append, List.cons_append, List.append_nil]
                    go_wp2
                    refine anyNext_mk ⟨⟨_, RE18.out.later bb38.out⟩, rfl⟩ ?_
                    refine anyC_pick1 6 (by kernel_rfl) (by kernel_rfl) ?_
                    simp only [pickAll, pickAt, List.nil_append, List.cons_append, List.append_nil]
                    go_wp2
                    refine anyNext_mk ⟨⟨_, RE18.out.later bb38.out⟩, rfl⟩ ?_
                    refine anyC_pick1 9 (by kernel_rfl) (by kernel_rfl) ?_
                    simp only [pickAll, pickAt, List.nil_append, List.cons_append, List.append_nil]
                    have c0 := Z38.out.c0
                    have c1 := Z38.out.c1
                    have fz := Z38.out.fz
                    have c2 : (x38.setCell ⟨gz, 0, none⟩ (.int .i64 n)).cell? ⟨gz, 1, none⟩ = some (.slice none 0 0) := (Z38.out.set0 _).c1
                    have fz2 := (Z38.out.set0 (.int .i64 n)).fz
                    have Y49 := Hid.mk7 (Y38.out.set_del Z38.out (.int .i64 n) (.slice ya es.length yc))
                    have Z49 := Hid.mk7 (Z38.out.set (.int .i64 n) (.slice ya es.length yc))
                    have bb49 : Hid (RowKit.Below yA.heap.size yA ((x38.setCell ⟨gz, 0, none⟩ (.int .i64 n)).setCell ⟨gz, 1, none⟩ (.slice ya es.length yc))) := below_set2 bb38.out hgz _ _
                    go_wp2
                    clear c0 c1 c2 fz fz2
                    generalize ((x38.setCell ⟨gz, 0, none⟩ (.int .i64 n)).setCell ⟨gz, 1, none⟩ (.slice ya es.length yc)) = x49 at *
                    refine anyNext_mk ⟨⟨_, RE18.out.later bb49.out⟩, rfl⟩ ?_
                    refine anyC_pick1 10 (by kernel_rfl) (by kernel_rfl) ?_
                    simp only [pickAll, pickAt, List.nil_append, List.cons_append, List.append_nil]
                    go_wp2
                    refine anyNext_last (anyC_done (by kernel_rfl) ?_)
                    go_wp2
                    go_meet
                    exact ⟨gz, _, rfl, rfl, Z49, Y49, bb49⟩
              · simp only [pickAll, pickAt, List.nil_append, List.cons_append, List.append_nil]
                have C51 := Hid.mk7 (C2.out.later (below_newE (RowKit.Below.refl _ _) (.cells #[.int .i64 0, .slice none 0 0] 24)))
                have Z51 : Hid (Rd (x2.alloc (.cells #[.int .i64 0, .slice none 0 0] 24)) x2.heap.size (.int .i64 0) (.slice none 0 0)) := Rd.new _ _ _
                have bb51 : Hid (RowKit.Below yA.heap.size yA (x2.alloc (.cells #[.int .i64 0, .slice none 0 0] 24))) := bb2.out.alloc bb2.out.size _
                have hgz := bb2.out.size
                go_wp2
                generalize (x2.alloc (.cells #[.int .i64 0, .slice none 0 0] 24)) = x51 at *
                generalize x2.heap.size = gz at *
                refine anyNext_mk ⟨⟨_, RE18.out.later bb51.out⟩, rfl⟩ ?_
                refine anyC_pick1 4 (by kernel_rfl) (by kernel_rfl) ?_
                simp only [pickAll, pickAt, List.nil_append, List.cons_append, List.append_nil]
                go_wp2_with fail
                refine (HT2.out _ _ _ (E18.out.later bb51.out) C51.out (T18.out.later bb51.out)).mono ?_
                rintro e x52 ⟨yv, rfl, hy, bz⟩
                obtain ⟨ya, yc, rfl, _, _, _⟩ := id hy
                have C52 := Hid.mk7 (C51.out.later bz)
                have Z52 := Hid.mk7 (Z51.out.later bz)
                have Y52 := Hid.mk7 hy
                have bb52 : Hid (RowKit.Below yA.heap.size yA x52) := bb51.out.trans (bz.mono bb51.out.size)
                clear bz hy
                go_wp2
                refine anyNext_mk ⟨⟨_, RE18.out.later bb52.out⟩, rfl⟩ ?_
                refine anyC_pick1 5 (by kernel_rfl) (by kernel_rfl) ?_
                simp only [pickAll, pickAt, List.nil_append, List.cons_append, List.append_nil]
                go_wp2
                refine anyNext_mk ⟨⟨_, RE18.out.later bb52.out⟩, rfl⟩ ?_
                refine anyC_pick2 6 7 (by kernel_rfl) (by kernel_rfl) (by kernel_rfl) ?_ ?_
                · simp only [pickAll, pickAt, List.nil_append, List.cons_append, List.append_nil]
                  go_wp2
                  refine anyNext_mk ⟨⟨_, RE18.out.later bb52.out⟩, rfl⟩ ?_
                  refine anyC_pick2 7 9 (by kernel_rfl) (by kernel_rfl) (by kernel_rfl) ?_ ?_
                  · simp only [pickAll, pickAt, List.nil_append, List.cons_append, List.append_nil]
                    go_wp2
                    refine anyNext_mk ⟨⟨_, RE18.out.later bb52.out⟩, rfl⟩ ?_
                    refine anyC_pick1 9 (by kernel_rfl) (by kernel_rfl) ?_
                    simp only [pickAll, pickAt, List.nil_append, List.cons_append, List.append_nil]
                    have c0 := Z52.out.c0
                    have c1 := Z52.out.c1
                    have fz := Z52.out.fz
                    have c2 : (x52.setCell ⟨gz, 0, none⟩ (.int .i64 n)).cell? ⟨gz, 1, none⟩ = some (.slice none 0 0) := (Z52.out.set0 _).c1
                    have fz2 := (Z52.out.set0 (.int .i64 n)).fz
                    have Y56 := Hid.mk7 (Y52.out.set_del Z52.out (.int .i64 n) (.slice ya es.length yc))
                    have Z56 := Hid.mk7 (Z52.out.set (.int .i64 n) (.slice ya es.length yc))
                    have bb56 : Hid (RowKit.Below yA.heap.size yA ((x52.setCell ⟨gz, 0, none⟩ (.int .i64 n)).setCell ⟨gz, 1, none⟩ (.slice ya es.length yc))) := below_set2 bb52.out hgz _ _
                    go_wp2
                    clear c0 c1 c2 fz fz2
                    generalize ((x52.setCell ⟨gz, 0, none⟩ (.int .i64 n)).setCell ⟨gz, 1, none⟩ (.slice ya es.length yc)) = x56 at *
                    refine anyNext_mk ⟨⟨_, RE18.out.later bb56.out⟩, rfl⟩ ?_
                    refine anyC_pick1 10 (by kernel_rfl) (by kernel_rfl) ?_
                    simp only [pickAll, pickAt, List.nil_append, List.cons_append, List.append_nil]
                    go_wp2
                    refine anyNext_last (anyC_done (by kernel_rfl) ?_)
                    go_wp2
                    go_meet
                    exact ⟨gz, _, rfl, rfl, Z56, Y56, bb56⟩
                  · simp only [pickAll, pickAt, List.nil_append, List.cons_append, List.append_nil]
                    have c0 := Z52.out.c0
                    have c1 := Z52.out.c1
                    have fz := Z52.out.fz
                    have c2 : (x52.setCell ⟨gz, 0, none⟩ (.int .i64 n)).cell? ⟨gz, 1, none⟩ = some (.slice none 0 0) := (Z52.out.set0 _).c1
                    have fz2 := (Z52.out.set0 (.int .i64 n)).fz
                    have Y58 := Hid.mk7 (Y52.out.set_del Z52.out (.int .i64 n) (.slice ya es.length yc))
                    have Z58 := Hid.mk7 (Z52.out.set (.int .i64 n) (.slice ya es.length yc))
                    have bb58 : Hid (RowKit.Below yA.heap.size yA ((x52.setCell ⟨gz, 0, none⟩ (.int .i64 n)).setCell ⟨gz, 1, none⟩ (.slice ya es.length yc))) := below_set2 bb52.out hgz _ _
                    go_wp2
                    clear c0 c1 c2 fz fz2
                    generalize ((x52.setCell ⟨gz, 0, none⟩ (.int .i64 n)).setCell ⟨gz, 1, none⟩ (.slice ya es.length yc)) = x58 at *
                    refine anyNext_mk ⟨⟨_, RE18.out.later bb58.out⟩, rfl⟩ ?_
                    refine anyC_pick1 7 (by kernel_rfl) (by kernel_rfl) ?_
                    simp only [pickAll, pickAt, List.nil_append, List.cons_append, List.append_nil]
                    go_wp2
                    refine anyNext_mk ⟨⟨_, RE18.out.later bb58.out⟩, rfl⟩ ?_
                    refine anyC_pick1 10 (by kernel_rfl) (by kernel_rfl) ?_
                    simp only [pickAll, pickAt, List.nil_append, List.cons_append, List.append_nil]
                    go_wp2
                    refine anyNext_last (anyC_done (by kernel_rfl) ?_)
                    go_wp2
                    go_meet
                    exact ⟨gz, _, rfl, rfl, Z58, Y58, bb58⟩
                · simp only [pickAll, pickAt, List.nil_append, List.cons_append, List.append_nil]
                  go_wp2
                  refine anyNext_mk ⟨⟨_, RE18.out.later bb52.out⟩, rfl⟩ ?_
                  refine anyC_pick1 6 (by kernel_rfl) (by kernel_rfl) ?_
                  simp only [pickAll, pickAt, List.nil_append, List.cons_append, List.append_nil]
                  go_wp2
                  refine anyNext_mk ⟨⟨_, RE18.out.later bb52.out⟩, rfl⟩ ?_
                  refine anyC_pick1 9 (by kernel_rfl) (by kernel_rfl) ?_
                  simp only [pickAll, pickAt, List.nil_append, List.cons_append, List.append_nil]
                  have c0 := Z52.out.c0
                  have c1 := Z52.out.c1
                  have fz := Z52.out.fz
                  have c2 : (x52.setCell ⟨gz, 0, none⟩ (.int .i64 n)).cell? ⟨gz, 1, none⟩ = some (.slice none 0 0) := (Z52.out.set0 _).c1
                  have fz2 := (Z52.out.set0 (.int .i64 n)).fz
                  have Y63 := Hid.mk7 (Y52.out.set_del Z52.out (.int .i64 n) (.slice ya es.length yc))
                  have Z63 := Hid.mk7 (Z52.out.set (.int .i64 n) (.slice ya es.length yc))
                  have bb63 : Hid (RowKit.Below yA.heap.size yA ((x52.setCell ⟨gz, 0, none⟩ (.int .i64 n)).setCell ⟨gz, 1, none⟩ (.slice ya es.length yc))) := below_set2 bb52.out hgz _ _
                  go_wp2
                  clear c0 c1 c2 fz fz2
                  generalize ((x52.setCell ⟨gz, 0, none⟩ (.int .i64 n)).setCell ⟨gz, 1, none⟩ (.slice ya es.length yc)) = x63 at *
                  refine anyNext_mk ⟨⟨_, RE18.out.later bb63.out⟩, rfl⟩ ?_
                  refine anyC_pick1 10 (by kernel_rfl) (by kernel_rfl) ?_
                  simp only [pickAll, pickAt, List.nil_append, List.cons_append, List.append_nil]
                  go_wp2
                  refine anyNext_last (anyC_done (by kernel_rfl) ?_)
                  go_wp2
                  go_meet
                  exact ⟨gz, _, rfl, rfl, Z63, Y63, bb63⟩
            · simp only [pickAll, pickAt, List.nil_append, List.cons_append, List.append_nil]
              have Z65 : Hid (Rd (x1.alloc (.cells #[.int .i64 0, .slice none 0 0] 24)) x1.heap.size (.int .i64 0) (.slice none 0 0)) := Rd.new _ _ _
              have bb65 : Hid (RowKit.Below yA.heap.size yA (x1.alloc (.cells #[.int .i64 0, .slice none 0 0] 24))) := bb1.out.alloc bb1.out.size _
              have hgz := bb1.out.size
              go_wp2
              generalize (x1.alloc (.cells #[.int .i64 0, .slice none 0 0] 24)) = x65 at *
              generalize x1.heap.size = gz at *
              refine anyNext_mk ⟨⟨_, RE18.out.later bb65.out⟩, rfl⟩ ?_
              refine anyC_pick1 3 (by kernel_rfl) (by kernel_rfl) ?_
              simp only [pickAll, pickAt, List.nil_append, List.cons_append, List.append_nil]
              go_wp2_with fail
              refine (HK2.out _).mono ?_
              rintro e x66 ⟨kv, rfl, hy, bz⟩
              have Z66 := Hid.mk7 (Z65.out.later bz)
              have C66 := Hid.mk7 hy
              have bb66 : Hid (RowKit.Below yA.heap.size yA x66) := bb65.out.trans (bz.mono bb65.out.size)
              clear bz hy
              go_wp2
              refine anyNext_mk ⟨⟨_, RE18.out.later bb66.out⟩, rfl⟩ ?_
              refine anyC_pick1 4 (by kernel_rfl) (by kernel_rfl) ?_
              simp only [pickAll, pickAt, List.nil_append, List.cons_append, List.append_nil]
              go_wp2_with fail
              refine (HT2.out _ _ _ (E18.out.later bb66.out) C66.out (T18.out.later bb66.out)).mono ?_
              rintro e x67 ⟨yv, rfl, hy, bz⟩
              obtain ⟨ya, yc, rfl, _, _, _⟩ := id hy
              have Z67 := Hid.mk7 (Z66.out.later bz)
              have C67 := Hid.mk7 (C66.out.later bz)
              have Y67 := Hid.mk7 hy
              have bb67 : Hid (RowKit.Below yA.heap.size yA x67) := bb66.out.trans (bz.mono bb66.out.size)
              clear bz hy
              go_wp2
              refine anyNext_mk ⟨⟨_, RE18.out.later bb67.out⟩, rfl⟩ ?_
              refine anyC_pick1 5 (by kernel_rfl) (by kernel_rfl) ?_
              simp only [pickAll, pickAt, List.nil_append, List.cons_append, List.append_nil]
              go_wp2
              refine anyNext_mk ⟨⟨_, RE18.out.later bb67.out⟩, rfl⟩ ?_
              refine anyC_pick2 6 7 (by kernel_rfl) (by kernel_rfl) (by kernel_rfl) ?_ ?_
              · simp only [pickAll, pickAt, List.nil_append, List.cons_append, List.append_nil]
                go_wp2
                refine anyNext_mk ⟨⟨_, RE18.out.later bb67.out⟩, rfl⟩ ?_
                refine anyC_pick2 7 9 (by kernel_rfl) (by kernel_rfl) (by kernel_rfl) ?_ ?_
                · simp only [pickAll, pickAt, List.nil_append, List.cons_append, List.append_nil]
                  go_wp2
                  refine anyNext_mk ⟨⟨_, RE18.out.later bb67.out⟩, rfl⟩ ?_
                  refine anyC_pick1 9 (by kernel_rfl) (by kernel_rfl) ?_
                  simp only [pickAll, pickAt, List.nil_append, List.cons_append, List.append_nil]
                  have c0 := Z67.out.c0
                  have c1 := Z67.out.c1
                  have fz := Z67.out.fz
                  have c2 : (x67.setCell ⟨gz, 0, none⟩ (.int .i64 n)).cell? ⟨gz, 1, none⟩ = some (.slice none 0 0) := (Z67.out.set0 _).c1
                  have fz2 := (Z67.out.set0 (.int .i64 n)).fz
                  have Y71 := Hid.mk7 (Y67.out.set_del Z67.out (.int .i64 n) (.slice ya es.length yc))
                  have Z71 := Hid.mk7 (Z67.out.set (.int .i64 n) (.slice ya es.length yc))
                  have bb71 : Hid (RowKit.Below yA.heap.size yA ((x67.setCell ⟨gz, 0, none⟩ (.int .i64 n)).setCell ⟨gz, 1, none⟩ (.slice ya es.length yc))) := below_set2 bb67.out hgz _ _
                  go_wp2
                  clear c0 c1 c2 fz fz2
                  generalize ((x67.setCell ⟨gz, 0, none⟩ (.int .i64 n)).setCell ⟨gz, 1, none⟩ (.slice ya es.length yc)) = x71 at *
                  refine anyNext_mk ⟨⟨_, RE18.out.later bb71.out⟩, rfl⟩ ?_
                  refine anyC_pick1 10 (by kernel_rfl) (by kernel_rfl) ?_
                  simp only [pickAll, pickAt, List.nil_append, List.cons_append, List.append_nil]
                  go_wp2
                  refine anyNext_last (anyC_done (by kernel_rfl) ?_)
                  go_wp2
                  go_meet
                  exact ⟨gz, _, rfl, rfl, Z71, Y71, bb71⟩
                · simp only [pickAll, pickAt, List.nil_append, List.cons_append, List.append_nil]
                  have c0 := Z67.out.c0
                  have c1 := Z67.out.c1
                  have fz := Z67.out.fz
                  have c2 : (x67.setCell ⟨gz, 0, none⟩ (.int .i64 n)).cell? ⟨gz, 1, none⟩ = some (.slice none 0 0) := (Z67.out.set0 _).c1
                  have fz2 := (Z67.out.set0 (.int .i64 n)).fz
                  have Y73 := Hid.mk7 (Y67.out.set_del Z67.out (.int .i64 n) (.slice ya es.length yc))
                  have Z73 := Hid.mk7 (Z67.out.set (.int .i64 n) (.slice ya es.length yc))
                  have bb73 : Hid (RowKit.Below yA.heap.size yA ((x67.setCell ⟨gz, 0, none⟩ (.int .i64 n)).setCell ⟨gz, 1, none⟩ (.slice ya es.length yc))) := below_set2 bb67.out hgz _ _
                  go_wp2
                  clear c0 c1 c2 fz fz2
                  generalize ((x67.setCell ⟨gz, 0, none⟩ (.int .i64 n)).setCell ⟨gz, 1, none⟩ (.slice ya es.length yc)) = x73 at *
                  refine anyNext_mk ⟨⟨_, RE18.out.later bb73.out⟩, rfl⟩ ?_
                  refine anyC_pick1 7 (by kernel_rfl) (by kernel_rfl) ?_
                  simp only [pickAll, pickAt, List.nil_append, List.cons_append, List.append_nil]
                  go_wp2
                  refine anyNext_mk ⟨⟨_, RE18.out.later bb73.out⟩, rfl⟩ ?_
                  refine anyC_pick1 10 (by kernel_rfl) (by kernel_rfl) ?_
                  simp only [pickAll, pickAt, List.nil_append, List.cons_append, List.append_nil]
                  go_wp2
                  refine anyNext_last (anyC_done (by kernel_rfl) ?_)
                  go_wp2
                  go_meet
                  exact ⟨gz, _, rfl, rfl, Z73, Y73, bb73⟩
              · simp only [pickAll, pickAt, List.nil_append, List.cons_append, List.append_nil]
                go_wp2
                refine anyNext_mk ⟨⟨_, RE18.out.later bb67.out⟩, rfl⟩ ?_
                refine anyC_pick1 6 (by kernel_rfl) (by kernel_rfl) ?_
                simp only [pickAll, pickAt, List.nil_append, List.cons_append, List.append_nil]
                go_wp2
                refine anyNext_mk ⟨⟨_, RE18.out.later bb67.out⟩, rfl⟩ ?_
                refine anyC_pick1 9 (by kernel_rfl) (by kernel_rfl) ?_
                simp only [pickAll, pickAt, List.nil_append, List.cons_append, List.append_nil]
                have c0 := Z67.out.c0
                have c1 := Z67.out.c1
                have fz := Z67.out.fz
                have c2 : (x67.setCell ⟨gz, 0, none⟩ (.int .i64 n)).cell? ⟨gz, 1, none⟩ = some (.slice none 0 0) := (Z67.out.set0 _).c1
                have fz2 := (Z67.out.set0 (.int .i64 n)).fz
                have Y78 := Hid.mk7 (Y67.out.set_del Z67.out (.int .i64 n) (.slice ya es.length yc))
                have Z78 := Hid.mk7 (Z67.out.set (.int .i64 n) (.slice ya es.length yc))
                have bb78 : Hid (RowKit.Below yA.heap.size yA ((x67.setCell ⟨gz, 0, none⟩ (.int .i64 n)).setCell ⟨gz, 1, none⟩ (.slice ya es.length yc))) := below_set2 bb67.out hgz _ _
                go_wp2
                clear c0 c1 c2 fz fz2
                generalize ((x67.setCell ⟨gz, 0, none⟩ (.int .i64 n)).setCell ⟨gz, 1, none⟩ (.slice ya es.length yc)) = x78 at *
                refine anyNext_mk ⟨⟨_, RE18.out.later bb78.out⟩, rfl⟩ ?_
                refine anyC_pick1 10 (by kernel_rfl) (by kernel_rfl) ?_
                simp only [pickAll, pickAt, List.nil_append, List.cons_append, List.append_nil]
                go_wp2
                refine anyNext_last (anyC_done (by kernel_rfl) ?_)
                go_wp2
                go_meet
                exact ⟨gz, _, rfl, rfl, Z78, Y78, bb78⟩
          · simp only [pickAll, pickAt, List.nil_append, List.cons_append, List.append_nil]
            have Z80 : Hid (Rd (x0.alloc (.cells #[.int .i64 0, .slice none 0 0] 24)) x0.heap.size (.int .i64 0) (.slice none 0 0)) := Rd.new _ _ _
            have bb80 : Hid (RowKit.Below yA.heap.size yA (x0.alloc (.cells #[.int .i64 0, .slice none 0 0] 24))) := bb0.out.alloc bb0.out.size _
            have hgz := bb0.out.size
            go_wp2
            generalize (x0.alloc (.cells #[.int .i64 0, .slice none 0 0] 24)) = x80 at *
            generalize x0.heap.size = gz at *
            refine anyNext_mk ⟨⟨_, RE18.out.later bb80.out⟩, rfl⟩ ?_
            refine anyC_pick1 2 (by kernel_rfl) (by kernel_rfl) ?_
            simp only [pickAll, pickAt, List.nil_append, List.cons_append, List.append_nil]
            go_wp2_with fail
            refine (HSZ.out _ _ (E18.out.later bb80.out) (T18.out.later bb80.out)).mono ?_
            rintro e x81 ⟨rfl, bz⟩
            have Z81 := Hid.mk7 (Z80.out.later bz)
            have bb81 : Hid (RowKit.Below yA.heap.size yA x81) := bb80.out.trans (bz.mono bb80.out.size)
            clear bz
            go_wp2
            refine anyNext_mk ⟨⟨_, RE18.out.later bb81.out⟩, rfl⟩ ?_
            refine anyC_pick1 3 (by kernel_rfl) (by kernel_rfl) ?_
            simp only [pickAll, pickAt, List.nil_append, List.cons_append, List.append_nil]
            go_wp2_with fail
            refine (HK2.out _).mono ?_
            rintro e x82 ⟨kv, rfl, hy, bz⟩
            have Z82 := Hid.mk7 (Z81.out.later bz)
            have C82 := Hid.mk7 hy
            have bb82 : Hid (RowKit.Below yA.heap.size yA x82) := bb81.out.trans (bz.mono bb81.out.size)
            clear bz hy
            go_wp2
            refine anyNext_mk ⟨⟨_, RE18.out.later bb82.out⟩, rfl⟩ ?_
            refine anyC_pick1 4 (by kernel_rfl) (by kernel_rfl) ?_
            simp only [pickAll, pickAt, List.nil_append, List.cons_append, List.append_nil]
            go_wp2_with fail
            refine (HT2.out _ _ _ (E18.out.later bb82.out) C82.out (T18.out.later bb82.out)).mono ?_
            rintro e x83 ⟨yv, rfl, hy, bz⟩
            obtain ⟨ya, yc, rfl, _, _, _⟩ := id hy
            have Z83 := Hid.mk7 (Z82.out.later bz)
            have C83 := Hid.mk7 (C82.out.later bz)
            have Y83 := Hid.mk7 hy
            have bb83 : Hid (RowKit.Below yA.heap.size yA x83) := bb82.out.trans (bz.mono bb82.out.size)
            clear bz hy
            go_wp2
            refine anyNext_mk ⟨⟨_, RE18.out.later bb83.out⟩, rfl⟩ ?_
            refine anyC_pick1 5 (by kernel_rfl) (by kernel_rfl) ?_
            simp only [pickAll, pickAt, List.nil_append, List.cons_append, List.append_nil]
            go_wp2
            refine anyNext_mk ⟨⟨_, RE18.out.later bb83.out⟩, rfl⟩ ?_
            refine anyC_pick2 6 7 (by kernel_rfl) (by kernel_rfl) (by kernel_rfl) ?_ ?_
            · simp only [pickAll, pickAt, List.nil_append, List.cons_append, List.append_nil]
              go_wp2
              refine anyNext_mk ⟨⟨_, RE18.out.later bb83.out⟩, rfl⟩ ?_
              refine anyC_pick2 7 9 (by kernel_rfl) (by kernel_rfl) (by kernel_rfl) ?_ ?_
              · simp only [pickAll, pickAt, List.nil_append, List.cons_append, List.append_nil]
                go_wp2
                refine anyNext_mk ⟨⟨_, RE18.out.later bb83.out⟩, rfl⟩ ?_
                refine anyC_pick1 9 (by kernel_rfl) (by kernel_rfl) ?_
                simp only [pickAll, pickAt, List.nil_append, List.cons_append, List.append_nil]
                have c0 := Z83.out.c0
                have c1 := Z83.out.c1
                have fz := Z83.out.fz
                have c2 : (x83.setCell ⟨gz, 0, none⟩ (.int .i64 n)).cell? ⟨gz, 1, none⟩ = some (.slice none 0 0) := (Z83.out.set0 _).c1
                have fz2 := (Z83.out.set0 (.int .i64 n)).fz
                have Y87 := Hid.mk7 (Y83.out.set_del Z83.out (.int .i64 n) (.slice ya es.length yc))
                have Z87 := Hid.mk7 (Z83.out.set (.int .i64 n) (.slice ya es.length yc))
                have bb87 : Hid (RowKit.Below yA.heap.size yA ((x83.setCell ⟨gz, 0, none⟩ (.int .i64 n)).setCell ⟨gz, 1, none⟩ (.slice ya es.length yc))) := below_set2 bb83.out hgz _ _
                go_wp2
                clear c0 c1 c2 fz fz2
                generalize ((x83.setCell ⟨gz, 0, none⟩ (.int .i64 n)).setCell ⟨gz, 1, none⟩ (.slice ya es.length yc)) = x87 at *
                refine anyNext_mk ⟨⟨_, RE18.out.later bb87.out⟩, rfl⟩ ?_
                refine anyC_pick1 10 (by kernel_rfl) (by kernel_rfl) ?_
                simp only [pickAll, pickAt, List.nil_append, List.cons_append, List.append_nil]
                go_wp2
                refine anyNext_last (anyC_done (by kernel_rfl) ?_)
                go_wp2
                go_meet
                exact ⟨gz, _, rfl, rfl, Z87, Y87, bb87⟩
              · simp only [pickAll, pickAt, List.nil_append, List.cons_append, List.append_nil]
                have c0 := Z83.out.c0
                have c1 := Z83.out.c1
                have fz := Z83.out.fz
                have c2 : (x83.setCell ⟨gz, 0, none⟩ (.int .i64 n)).cell? ⟨gz, 1, none⟩ = some (.slice none 0 0) := (Z83.out.set0 _).c1
                have fz2 := (Z83.out.set0 (.int .i64 n)).fz
                have Y89 := Hid.mk7 (Y83.out.set_del Z83.out (.int .i64 n) (.slice ya es.length yc))
                have Z89 := Hid.mk7 (Z83.out.set (.int .i64 n) (.slice ya es.length yc))
                have bb89 : Hid (RowKit.Below yA.heap.size yA ((x83.setCell ⟨gz, 0, none⟩ (.int .i64 n)).setCell ⟨gz, 1, none⟩ (.slice ya es.length yc))) := below_set2 bb83.out hgz _ _
                go_wp2
                clear c0 c1 c2 fz fz2
                generalize ((x83.setCell ⟨gz, 0, none⟩ (.int .i64 n)).setCell ⟨gz, 1, none⟩ (.slice ya es.length yc)) = x89 at *
                refine anyNext_mk ⟨⟨_, RE18.out.later bb89.out⟩, rfl⟩ ?_
                refine anyC_pick1 7 (by kernel_rfl) (by kernel_rfl) ?_
                simp only [pickAll, pickAt, List.nil_append, List.cons_append, List.append_nil]
                go_wp2
                refine anyNext_mk ⟨⟨_, RE18.out.later bb89.out⟩, rfl⟩ ?_
                refine anyC_pick1 10 (by kernel_rfl) (by kernel_rfl) ?_
                simp only [pickAll, pickAt, List.nil_append, List.cons_append, List.append_nil]
                go_wp2
                refine anyNext_last (anyC_done (by kernel_rfl) ?_)
                go_wp2
                go_meet
                exact ⟨gz, _, rfl, rfl, Z89, Y89, bb89⟩
            · simp only [pickAll, pickAt, List.nil_append, List.cons_append, List.append_nil]
              go_wp2
              refine anyNext_mk ⟨⟨_, RE18.out.later bb83.out⟩, rfl⟩ ?_
              refine anyC_pick1 6 (by kernel_rfl) (by kernel_rfl) ?_
              simp only [pickAll, pickAt, List.nil_append, List.cons_append, List.append_nil]
              go_wp2
              refine anyNext_mk ⟨⟨_, RE18.out.later bb83.out⟩, rfl⟩ ?_
              refine anyC_pick1 9 (by kernel_rfl) (by kernel_rfl) ?_
              simp only [pickAll, pickAt, List.nil_append, List.cons_append, List.append_nil]
              have c0 := Z83.out.c0
              have c1 := Z83.out.c1
              have fz := Z83.out.fz
              have c2 : (x83.setCell ⟨gz, 0, none⟩ (.int .i64 n)).cell? ⟨gz, 1, none⟩ = some (.slice none 0 0) := (Z83.out.set0 _).c1
              have fz2 := (Z83.out.set0 (.int .i64 n)).fz
              have Y94 := Hid.mk7 (Y83.out.set_del Z83.out (.int .i64 n) (.slice ya es.length yc))
              have Z94 := Hid.mk7 (Z83.out.set (.int .i64 n) (.slice ya es.length yc))
              have bb94 : Hid (RowKit.Below yA.heap.size yA ((x83.setCell ⟨gz, 0, none⟩ (.int .i64 n)).setCell ⟨gz, 1, none⟩ (.slice ya es.length yc))) := below_set2 bb83.out hgz _ _
              go_wp2
              clear c0 c1 c2 fz fz2
              generalize ((x83.setCell ⟨gz, 0, none⟩ (.int .i64 n)).setCell ⟨gz, 1, none⟩ (.slice ya es.length yc)) = x94 at *
              refine anyNext_mk ⟨⟨_, RE18.out.later bb94.out⟩, rfl⟩ ?_
              refine anyC_pick1 10 (by kernel_rfl) (by kernel_rfl) ?_
              simp only [pickAll, pickAt, List.nil_append, List.cons_append, List.append_nil]
              go_wp2
              refine anyNext_last (anyC_done (by kernel_rfl) ?_)
              go_wp2
              go_meet
              exact ⟨gz, _, rfl, rfl, Z94, Y94, bb94⟩
        case rest =>
          generalize wc = yB at *
          obtain ⟨gB, yv, rfl, rfl, RZB, HYB, BBB⟩ := hcut
          obtain ⟨Ba, Bc, rfl, _, _, _⟩ := id HYB.out
          have bz := BBB.out
          have L19 := Hid.mk7 (L18.out.later bz)
          have T19 := Hid.mk7 (T18.out.later bz)
          have G19 := Hid.mk7 (G18.out.trans (bz.mono G18.out.size))
          have E19 := Hid.mk7 (E18.out.later bz)
          have RE19 := Hid.mk7 (RE18.out.later bz)
          have RA19 := Hid.mk7 (RZA.out.later bz)
          have YA19 := Hid.mk7 (HYA.out.later bz)
          clear L18 T18 G18 E18 RE18 RZA HYA bz
          have HDA : Hid (DAt (yB.alloc (.cells #[.int .i64 n, .slice ea es.length ec] 24)) (.slice (some ⟨yB.heap.size, 0, none⟩) 1 1) [(n, es)]) := by
            refine ⟨_, _, rfl, Nat.le_refl _, fun i q hq => ?_⟩
            have hi0 : i = 0 := by
              have := (List.getElem?_eq_some_iff.1 hq).1
              simp at this
              omega
            subst hi0
            simp at hq
            subst hq
            exact ⟨yB.heap.size, 0, _, rfl, (Rd.new _ _ _).c0, (Rd.new _ _ _).c1, E19.out.alloc _⟩
          have pre0 := RE19.out.c0
          have pre1 := RE19.out.c1
          have bz : RowKit.Below yB.heap.size yB (yB.alloc (.cells #[.int .i64 n, .slice ea es.length ec] 24)) := below_newE (RowKit.Below.refl _ _) _
          have L20 := Hid.mk7 (L19.out.later bz)
          have T20 := Hid.mk7 (T19.out.later bz)
          have G20 := Hid.mk7 (G19.out.trans (bz.mono G19.out.size))
          have E20 := Hid.mk7 (E19.out.later bz)
          have RE20 := Hid.mk7 (RE19.out.later bz)
          have RA20 := Hid.mk7 (RA19.out.later bz)
          have YA20 := Hid.mk7 (YA19.out.later bz)
          have RB20 := Hid.mk7 (RZB.out.later bz)
          have YB20 := Hid.mk7 (HYB.out.later bz)
          clear L19 T19 G19 E19 RE19 RA19 YA19 RZB HYB bz
          have REc0 := RE20.out.c0
          have REc1 := RE20.out.c1
          have RAc0 := RA20.out.c0
          have RAc1 := RA20.out.c1
          have RBc0 := RB20.out.c0
          have RBc1 := RB20.out.c1
          go_wp2_with fail
          refine (HAL.out _ _ HDA.out T20.out).mono ?_
          rintro e w21 ⟨av, rfl, ha, bz⟩
          clear REc0 REc1 RAc0 RAc1 RBc0 RBc1
          obtain ⟨Ca, Cc, rfl, _, _, _⟩ := id ha
          have L22 := Hid.mk7 (L20.out.later bz)
          have T22 := Hid.mk7 (T20.out.later bz)
          have G22 := Hid.mk7 (G20.out.trans (bz.mono G20.out.size))
          have E22 := Hid.mk7 (E20.out.later bz)
          have RE22 := Hid.mk7 (RE20.out.later bz)
          have RA22 := Hid.mk7 (RA20.out.later bz)
          have YA22 := Hid.mk7 (YA20.out.later bz)
          have RB22 := Hid.mk7 (RB20.out.later bz)
          have YB22 := Hid.mk7 (YB20.out.later bz)
          have DA22 := Hid.mk7 (HDA.out.later bz)
          clear L20 T20 G20 E20 RE20 RA20 YA20 RB20 YB20 HDA bz
          have YC23 := Hid.mk7 (ha)
          clear ha
          clear DA22
          clear pre0 pre1
          have bz : RowKit.Below w21.heap.size w21 (w21.alloc (.cells #[.int .i64 n, .slice Ca es.length Cc] 24)) := below_newE (RowKit.Below.refl _ _) _
          have nw24 := Hid.mk7 (@Rd.new w21 (.int .i64 n) (.slice Ca es.length Cc))
          have L25 := Hid.mk7 (L22.out.later bz)
          have T25 := Hid.mk7 (T22.out.later bz)
          have G25 := Hid.mk7 (G22.out.trans (bz.mono G22.out.size))
          have E25 := Hid.mk7 (E22.out.later bz)
          have RE25 := Hid.mk7 (RE22.out.later bz)
          have RA25 := Hid.mk7 (RA22.out.later bz)
          have YA25 := Hid.mk7 (YA22.out.later bz)
          have RB25 := Hid.mk7 (RB22.out.later bz)
          have YB25 := Hid.mk7 (YB22.out.later bz)
          have YC25 := Hid.mk7 (YC23.out.later bz)
          clear L22 T22 G22 E22 RE22 RA22 YA22 RB22 YB22 YC23 bz
          have REc0 := RE25.out.c0
          have REc1 := RE25.out.c1
          have RAc0 := RA25.out.c0
          have RAc1 := RA25.out.c1
          have RBc0 := RB25.out.c0
          have RBc1 := RB25.out.c1
          have RCc0 := nw24.out.c0
          have RCc1 := nw24.out.c1
          go_upto_region 16 with fail
          clear REc0 REc1 RAc0 RAc1 RBc0 RBc1 RCc0 RCc1
          generalize w21.alloc (.cells #[.int .i64 n, .slice Ca es.length Cc] 24) = u16 at *
          go_cut [14, 15] from 65 to 73 (fun s9 s10 yD => ∃ (gz : Nat), s9 = .pointer (some ⟨gz, 0, none⟩) ∧ s10 = .int .i64 80 ∧ Hid (RowKit.Below u16.heap.size u16 yD))
          case first =>
            refine wp_region_turns (fun w' => ∃ q : (GW (fun W => Rd W gd (.int .i64 n) (.slice ea es.length ec))), w' = q.w) [0, 1] 11 10 (by kernel_rfl) (by kernel_rfl) (fun d => ⟨⟨redrawn u16 d, RE25.out.later (below_redrawnE u16 d)⟩, rfl⟩) ?_
            intro d
            have k0 : ∀ q : (GW (fun W => Rd W gd (.int .i64 n) (.slice ea es.length ec))), q.w.cell? ⟨gd, 0, none⟩ = some (.int .i64 n) := fun q => q.h.c0
            have k1 : ∀ q : (GW (fun W => Rd W gd (.int .i64 n) (.slice ea es.length ec))), q.w.cell? ⟨gd, 1, none⟩ = some (.slice ea es.length ec) := fun q => q.h.c1
            simp only [pickAll, pickAt, List.nil_append, List.cons_append, List.append_nil]
            have hne : Nonempty (GW (fun W => Rd W gd (.int .i64 n) (.slice ea es.length ec))) := ⟨⟨u16, RE25.out⟩⟩
            repeat (go_big_quiet_step (fail))
            refine wpQuiet_nil ?_
            clear hne k0 k1
            have bb0 := Hid.mk7 (below_redrawnE u16 d)
            generalize redrawn u16 d = x0 at *
            refine anyC_pick2 2 9 (by kernel_rfl) (by kernel_rfl) (by kernel_rfl) ?_ ?_
            · simp only [pickAll, pickAt, List.nil_append, List.cons_append, List.append_nil]
              go_wp2_with fail
              refine (HSZ.out _ _ (E25.out.later bb0.out) (T25.out.later bb0.out)).mono ?_
              rintro e x1 ⟨rfl, bz⟩
              have bb1 : Hid (RowKit.Below u16.heap.size u16 x1) := bb0.out.trans (bz.mono bb0.out.size)
              clear bz
              go_wp2
              refine anyNext_mk ⟨⟨_, RE25.out.later bb1.out⟩, rfl⟩ ?_
              refine anyC_pick2 3 9 (by kernel_rfl) (by kernel_rfl) (by kernel_rfl) ?_ ?_
              · simp only [pickAll, pickAt, List.nil_append, List.cons_append, List.append_nil]
                go_wp2
                refine anyNext_mk ⟨⟨_, RE25.out.later bb1.out⟩, rfl⟩ ?_
                refine anyC_pick2 4 9 (by kernel_rfl) (by kernel_rfl) (by kernel_rfl) ?_ ?_
                · simp only [pickAll, pickAt, List.nil_append, List.cons_append, List.append_nil]
                  go_wp2_with fail
                  refine (HK3.out _).mono ?_
                  rintro e x3 ⟨kv, rfl, hy, bz⟩
                  have C3 := Hid.mk7 hy
                  have bb3 : Hid (RowKit.Below u16.heap.size u16 x3) := bb1.out.trans (bz.mono bb1.out.size)
                  clear bz hy
                  go_wp2
                  refine anyNext_mk ⟨⟨_, RE25.out.later bb3.out⟩, rfl⟩ ?_
                  refine anyC_pick2 5 9 (by kernel_rfl) (by kernel_rfl) (by kernel_rfl) ?_ ?_
                  · simp only [pickAll, pickAt, List.nil_append, List.cons_append, List.append_nil]
                    go_wp2_with fail
                    refine (HT3.out _ _ _ (E25.out.later bb3.out) C3.out (T25.out.later bb3.out)).mono ?_
                    rintro e x4 ⟨rfl, bz⟩
                    have C4 := Hid.mk7 (C3.out.later bz)
                    have bb4 : Hid (RowKit.Below u16.heap.size u16 x4) := bb3.out.trans (bz.mono bb3.out.size)
                    clear bz
                    go_wp2
                    refine anyNext_mk ⟨⟨_, RE25.out.later bb4.out⟩, rfl⟩ ?_
                    refine anyC_pick2 6 9 (by kernel_rfl) (by kernel_rfl) (by kernel_rfl) ?_ ?_
                    · simp only [pickAll, pickAt, List.nil_append, List.cons_append, List.append_nil]
                      go_wp2
                      refine anyNext_mk ⟨⟨_, RE25.out.later bb4.out⟩, rfl⟩ ?_
                      refine anyC_pick3F 7 8 9 (by kernel_rfl) (by kernel_rfl) (by kernel_rfl) (by kernel_rfl) ?_ ?_ ?_
                      · simp only [pickAll, pickAt, List.nil_append, List.cons_append, List.append_nil]
                        go_wp2
                        refine anyNext_mk ⟨⟨_, RE25.out.later bb4.out⟩, rfl⟩ ?_
                        refine anyC_pick2 8 9 (by kernel_rfl) (by kernel_rfl) (by kernel_rfl) ?_ ?_
                        · simp only [pickAll, pickAt, List.nil_append, List.cons_append, List.append_nil]
                          go_wp2
                          refine anyNext_mk ⟨⟨_, RE25.out.later bb4.out⟩, rfl⟩ ?_
                          refine anyC_pick1 9 (by kernel_rfl) (by kernel_rfl) ?_
                          simp only [pickAll, pickAt, List.nil_append, List.cons_append, List.append_nil]
                          have C8 := Hid.mk7 (C4.out.later (below_newE (RowKit.Below.refl _ _) (.cells #[.int .i64 0, .slice none 0 0] 24)))
                          have Z8 : Hid (Rd (x4.alloc (.cells #[.int .i64 0, .slice none 0 0] 24)) x4.heap.size (.int .i64 0) (.slice none 0 0)) := Rd.new _ _ _
                          have bb8 : Hid (RowKit.Below u16.heap.size u16 (x4.alloc (.cells #[.int .i64 0, .slice none 0 0] 24))) := bb4.out.alloc bb4.out.size _
                          have hgz := bb4.out.size
                          go_wp2
                          generalize (x4.alloc (.cells #[.int .i64 0, .slice none 0 0] 24)) = x8 at *
                          generalize x4.heap.size = gz at *
                          refine anyNext_mk ⟨⟨_, RE25.out.later bb8.out⟩, rfl⟩ ?_
                          refine anyC_pick1 10 (by kernel_rfl) (by kernel_rfl) ?_
                          simp only [pickAll, pickAt, List.nil_append, List.cons_append, List.append_nil]
                          have c0 := Z8.out.c0
                          have c1 := Z8.out.c1
                          have fz := Z8.out.fz
                          have c2 : (x8.setCell ⟨gz, 0, none⟩ (.int .i64 0)).cell? ⟨gz, 1, none⟩ = some (.slice none 0 0) := (Z8.out.set0 _).c1
                          have fz2 := (Z8.out.set0 (.int .i64 0)).fz
                          have Z9 := Hid.mk7 (Z8.out.set (.int .i64 0) (.slice none 0 0))
                          have bb9 : Hid (RowKit.Below u16.heap.size u16 ((x8.setCell ⟨gz, 0, none⟩ (.int .i64 0)).setCell ⟨gz, 1, none⟩ (.slice none 0 0))) := below_set2 bb8.out hgz _ _
                          go_wp2
                          clear c0 c1 c2 fz fz2
                          generalize ((x8.setCell ⟨gz, 0, none⟩ (.int .i64 0)).setCell ⟨gz, 1, none⟩ (.slice none 0 0)) = x9 at *
                          refine anyNext_mk ⟨⟨_, RE25.out.later bb9.out⟩, rfl⟩ ?_
                          refine anyC_pick1 11 (by kernel_rfl) (by kernel_rfl) ?_
                          simp only [pickAll, pickAt, List.nil_append, List.cons_append, List.append_nil]
                          go_wp2
                          refine anyNext_last (anyC_done (by kernel_rfl) ?_)
                          go_wp2
                          go_meet
                          exact ⟨gz, rfl, rfl, bb9⟩
                        · simp only [pickAll, pickAt, List.nil_append, List.cons_append, List.append_nil]
                          have C11 := Hid.mk7 (C4.out.later (below_newE (RowKit.Below.refl _ _) (.cells #[.int .i64 0, .slice none 0 0] 24)))
                          have Z11 : Hid (Rd (x4.alloc (.cells #[.int .i64 0, .slice none 0 0] 24)) x4.heap.size (.int .i64 0) (.slice none 0 0)) := Rd.new _ _ _
                          have bb11 : Hid (RowKit.Below u16.heap.size u16 (x4.alloc (.cells #[.int .i64 0, .slice none 0 0] 24))) := bb4.out.alloc bb4.out.size _
                          have hgz := bb4.out.size
                          go_wp2
                          generalize (x4.alloc (.cells #[.int .i64 0, .slice none 0 0] 24)) = x11 at *
                          generalize x4.heap.size = gz at *
                          refine anyNext_mk ⟨⟨_, RE25.out.later bb11.out⟩, rfl⟩ ?_
                          refine anyC_pick2 8 10 (by kernel_rfl) (by kernel_rfl) (by kernel_rfl) ?_ ?_
                          · simp only [pickAll, pickAt, List.nil_append, List.cons_append, List.append_nil]
                            go_wp2
                            refine anyNext_mk ⟨⟨_, RE25.out.later bb11.out⟩, rfl⟩ ?_
                            refine anyC_pick1 10 (by kernel_rfl) (by kernel_rfl) ?_
                            simp only [pickAll, pickAt, List.nil_append, List.cons_append, List.append_nil]
                            have c0 := Z11.out.c0
                            have c1 := Z11.out.c1
                            have fz := Z11.out.fz
                            have c2 : (x11.setCell ⟨gz, 0, none⟩ (.int .i64 0)).cell? ⟨gz, 1, none⟩ = some (.slice none 0 0) := (Z11.out.set0 _).c1
                            have fz2 := (Z11.out.set0 (.int .i64 0)).fz
                            have Z13 := Hid.mk7 (Z11.out.set (.int .i64 0) (.slice none 0 0))
                            have bb13 : Hid (RowKit.Below u16.heap.size u16 ((x11.setCell ⟨gz, 0, none⟩ (.int .i64 0)).setCell ⟨gz, 1, none⟩ (.slice none 0 0))) := below_set2 bb11.out hgz _ _
                            go_wp2
                            clear c0 c1 c2 fz fz2
                            generalize ((x11.setCell ⟨gz, 0, none⟩ (.int .i64 0)).setCell ⟨gz, 1, none⟩ (.slice none 0 0)) = x13 at *
                            refine anyNext_mk ⟨⟨_, RE25.out.later bb13.out⟩, rfl⟩ ?_
                            refine anyC_pick1 11 (by kernel_rfl) (by kernel_rfl) ?_
                            simp only [pickAll, pickAt, List.nil_append, List.cons_append, List.append_nil]
                            go_wp2
                            refine anyNext_last (anyC_done (by kernel_rfl) ?_)
                            go_wp2
                            go_meet
                            exact ⟨gz, rfl, rfl, bb13⟩
                          · simp only [pickAll, pickAt, List.nil_append, List.cons_append, List.append_nil]
                            have c0 := Z11.out.c0
                            have c1 := Z11.out.c1
                            have fz := Z11.out.fz
                            have c2 : (x11.setCell ⟨gz, 0, none⟩ (.int .i64 0)).cell? ⟨gz, 1, none⟩ = some (.slice none 0 0) := (Z11.out.set0 _).c1
                            have fz2 := (Z11.out.set0 (.int .i64 0)).fz
                            have Z15 := Hid.mk7 (Z11.out.set (.int .i64 0) (.slice none 0 0))
                            have bb15 : Hid (RowKit.Below u16.heap.size u16 ((x11.setCell ⟨gz, 0, none⟩ (.int .i64 0)).setCell ⟨gz, 1, none⟩ (.slice none 0 0))) := below_set2 bb11.out hgz _ _
                            go_wp2
                            clear c0 c1 c2 fz fz2
                            generalize ((x11.setCell ⟨gz, 0, none⟩ (.int .i64 0)).setCell ⟨gz, 1, none⟩ (.slice none 0 0)) = x15 at *
                            refine anyNext_mk ⟨⟨_, RE25.out.later bb15.out⟩, rfl⟩ ?_
                            refine anyC_pick1 8 (by kernel_rfl) (by kernel_rfl) ?_
                            simp only [pickAll, pickAt, List.nil_append, List.cons_append, List.append_nil]
                            go_wp2
                            refine anyNext_mk ⟨⟨_, RE25.out.later bb15.out⟩, rfl⟩ ?_
                            refine anyC_pick1 11 (by kernel_rfl) (by kernel_rfl) ?_
                            simp only [pickAll, pickAt, List.nil_append, List.cons_append, List.append_nil]
                            go_wp2
                            refine anyNext_last (anyC_done (by kernel_rfl) ?_)
                            go_wp2
                            go_meet
                            exact ⟨gz, rfl, rfl, bb15⟩
                      · simp only [pickAll, pickAt, List.nil_append, List.cons_append, List.append_nil]
                        go_wp2
                        refine anyNext_mk ⟨⟨_, RE25.out.later bb4.out⟩, rfl⟩ ?_
                        refine anyC_pick2 7 9 (by kernel_rfl) (by kernel_rfl) (by kernel_rfl) ?_ ?_
                        · simp only [pickAll, pickAt, List.nil_append, List.cons_append, List.append_nil]
                          go_wp2
                          refine anyNext_mk ⟨⟨_, RE25.out.later bb4.out⟩, rfl⟩ ?_
                          refine anyC_pick1 9 (by kernel_rfl) (by kernel_rfl) ?_
                          simp only [pickAll, pickAt, List.nil_append, List.cons_append, List.append_nil]
                          have C20 := Hid.mk7 (C4.out.later (below_newE (RowKit.Below.refl _ _) (.cells #[.int .i64 0, .slice none 0 0] 24)))
                          have Z20 : Hid (Rd (x4.alloc (.cells #[.int .i64 0, .slice none 0 0] 24)) x4.heap.size (.int .i64 0) (.slice none 0 0)) := Rd.new _ _ _
                          have bb20 : Hid (RowKit.Below u16.heap.size u16 (x4.alloc (.cells #[.int .i64 0, .slice none 0 0] 24))) := bb4.out.alloc bb4.out.size _
                          have hgz := bb4.out.size
                          go_wp2
                          generalize (x4.alloc (.cells #[.int .i64 0, .slice none 0 0] 24)) = x20 at *
                          generalize x4.heap.size = gz at *
                          refine anyNext_mk ⟨⟨_, RE25.out.later bb20.out⟩, rfl⟩ ?_
                          refine anyC_pick1 10 (by kernel_rfl) (by kernel_rfl) ?_
                          simp only [pickAll, pickAt, List.nil_append, List.cons_append, List.append_nil]
                          have c0 := Z20.out.c0
                          have c1 := Z20.out.c1
                          have fz := Z20.out.fz
                          have c2 : (x20.setCell ⟨gz, 0, none⟩ (.int .i64 0)).cell? ⟨gz, 1, none⟩ = some (.slice none 0 0) := (Z20.out.set0 _).c1
                          have fz2 := (Z20.out.set0 (.int .i64 0)).fz
                          have Z21 := Hid.mk7 (Z20.out.set (.int .i64 0) (.slice none 0 0))
                          have bb21 : Hid (RowKit.Below u16.heap.size u16 ((x20.setCell ⟨gz, 0, none⟩ (.int .i64 0)).setCell ⟨gz, 1, none⟩ (.slice none 0 0))) := below_set2 bb20.out hgz _ _
                          go_wp2
                          clear c0 c1 c2 fz fz2
                          generalize ((x20.setCell ⟨gz, 0, none⟩ (.int .i64 0)).setCell ⟨gz, 1, none⟩ (.slice none 0 0)) = x21 at *
                          refine anyNext_mk ⟨⟨_, RE25.out.later bb21.out⟩, rfl⟩ ?_
                          refine anyC_pick1 11 (by kernel_rfl) (by kernel_rfl) ?_
                          simp only [pickAll, pickAt, List.nil_append, List.cons_append, List.append_nil]
                          go_wp2
                          refine anyNext_last (anyC_done (by kernel_rfl) ?_)
                          go_wp2
                          go_meet
                          exact ⟨gz, rfl, rfl, bb21⟩
                        · simp only [pickAll, pickAt, List.nil_append, List.cons_append, List.append_nil]
                          have C23 := Hid.mk7 (C4.out.later (below_newE (RowKit.Below.refl _ _) (.cells #[.int .i64 0, .slice none 0 0] 24)))
                          have Z23 : Hid (Rd (x4.alloc (.cells #[.int .i64 0, .slice none 0 0] 24)) x4.heap.size (.int .i64 0) (.slice none 0 0)) := Rd.new _ _ _
                          have bb23 : Hid (RowKit.Below u16.heap.size u16 (x4.alloc (.cells #[.int .i64 0, .slice none 0 0] 24))) := bb4.out.alloc bb4.out.size _
                          have hgz := bb4.out.size
                          go_wp2
                          generalize (x4.alloc (.cells #[.int .i64 0, .slice none 0 0] 24)) = x23 at *
                          generalize x4.heap.size = gz at *
                          refine anyNext_mk ⟨⟨_, RE25.out.later bb23.out⟩, rfl⟩ ?_
                          refine anyC_pick1 7 (by kernel_rfl) (by kernel_rfl) ?_
                          simp only [pickAll, pickAt, List.nil_append, List.cons_append, List.append_nil]
                          go_wp2
                          refine anyNext_mk ⟨⟨_, RE25.out.later bb23.out⟩, rfl⟩ ?_
                          refine anyC_pick1 10 (by kernel_rfl) (by kernel_rfl) ?_
                          simp only [pickAll, pickAt, List.nil_append, List.cons_append, List.append_nil]
                          have c0 := Z23.out.c0
                          have c1 := Z23.out.c1
                          have fz := Z23.out.fz
                          have c2 : (x23.setCell ⟨gz, 0, none⟩ (.int .i64 0)).cell? ⟨gz, 1, none⟩ = some (.slice none 0 0) := (Z23.out.set0 _).c1
                          have fz2 := (Z23.out.set0 (.int .i64 0)).fz
                          have Z25 := Hid.mk7 (Z23.out.set (.int .i64 0) (.slice none 0 0))
                          have bb25 : Hid (RowKit.Below u16.heap.size u16 ((x23.setCell ⟨gz, 0, none⟩ (.int .i64 0)).setCell ⟨gz, 1, none⟩ (.slice none 0 0))) := below_set2 bb23.out hgz _ _
                          go_wp2
                          clear c0 c1 c2 fz fz2
                          generalize ((x23.setCell ⟨gz, 0, none⟩ (.int .i64 0)).setCell ⟨gz, 1, none⟩ (.slice none 0 0)) = x25 at *
                          refine anyNext_mk ⟨⟨_, RE25.out.later bb25.out⟩, rfl⟩ ?_
                          refine anyC_pick1 11 (by kernel_rfl) (by kernel_rfl) ?_
                          simp only [pickAll, pickAt, List.nil_append, List.cons_append, List.append_nil]
                          go_wp2
                          refine anyNext_last (anyC_done (by kernel_rfl) ?_)
                          go_wp2
                          go_meet
                          exact ⟨gz, rfl, rfl, bb25⟩
                      · simp only [pickAll, pickAt, List.nil_append, List.cons_append, List.append_nil]
                        have C27 := Hid.mk7 (C4.out.later (below_newE (RowKit.Below.refl _ _) (.cells #[.int .i64 0, .slice none 0 0] 24)))
                        have Z27 : Hid (Rd (x4.alloc (.cells #[.int .i64 0, .slice none 0 0] 24)) x4.heap.size (.int .i64 0) (.slice none 0 0)) := Rd.new _ _ _
                        have bb27 : Hid (RowKit.Below u16.heap.size u16 (x4.alloc (.cells #[.int .i64 0, .slice none 0 0] 24))) := bb4.out.alloc bb4.out.size _
                        have hgz := bb4.out.size
                        go_wp2
                        generalize (x4.alloc (.cells #[.int .i64 0, .slice none 0 0] 24)) = x27 at *
                        generalize x4.heap.size = gz at *
                        refine anyNext_mk ⟨⟨_, RE25.out.later bb27.out⟩, rfl⟩ ?_
                        refine anyC_pick2 7 8 (by kernel_rfl) (by kernel_rfl) (by kernel_rfl) ?_ ?_
                        · simp only [pickAll, pickAt, List.nil_append, List.cons_append, List.append_nil]
                          go_wp2
                          refine anyNext_mk ⟨⟨_, RE25.out.later bb27.out⟩, rfl⟩ ?_
                          refine anyC_pick2 8 10 (by kernel_rfl) (by kernel_rfl) (by kernel_rfl) ?_ ?_
                          · simp only [pickAll, pickAt, List.nil_append, List.cons_append, List.append_nil]
                            go_wp2
                            refine anyNext_mk ⟨⟨_, RE25.out.later bb27.out⟩, rfl⟩ ?_
                            refine anyC_pick1 10 (by kernel_rfl) (by kernel_rfl) ?_
                            simp only [pickAll, pickAt, List.nil_append, List.cons_append, List.append_nil]
                            have c0 := Z27.out.c0
                            have c1 := Z27.out.c1
                            have fz := Z27.out.fz
                            have c2 : (x27.setCell ⟨gz, 0, none⟩ (.int .i64 0)).cell? ⟨gz, 1, none⟩ = some (.slice none 0 0) := (Z27.out.set0 _).c1
                            have fz2 := (Z27.out.set0 (.int .i64 0)).fz
                            have Z30 := Hid.mk7 (Z27.out.set (.int .i64 0) (.slice none 0 0))
                            have bb30 : Hid (RowKit.Below u16.heap.size u16 ((x27.setCell ⟨gz, 0, none⟩ (.int .i64 0)).setCell ⟨gz, 1, none⟩ (.slice none 0 0))) := below_set2 bb27.out hgz _ _
                            go_wp2
                            clear c0 c1 c2 fz fz2
                            generalize ((x27.setCell ⟨gz, 0, none⟩ (.int .i64 0)).setCell ⟨gz, 1, none⟩ (.slice none 0 0)) = x30 at *
                            refine anyNext_mk ⟨⟨_, RE25.out.later bb30.out⟩, rfl⟩ ?_
                            refine anyC_pick1 11 (by kernel_rfl) (by kernel_rfl) ?_
                            simp only [pickAll, pickAt, List.nil_append, List.cons_append, List.append_nil]
                            go_wp2
                            refine anyNext_last (anyC_done (by kernel_rfl) ?_)
                            go_wp2
                            go_meet
                            exact ⟨gz, rfl, rfl, bb30⟩
                          · simp only [pickAll, pickAt, List.nil_append, List.cons_append, List.append_nil]
                            have c0 := Z27.out.c0
                            have c1 := Z27.out.c1
                            have fz := Z27.out.fz
                            have c2 : (x27.setCell ⟨gz, 0, none⟩ (.int .i64 0)).cell? ⟨gz, 1, none⟩ = some (.slice none 0 0) := (Z27.out.set0 _).c1
                            have fz2 := (Z27.out.set0 (.int .i64 0)).fz
                            have Z32 := Hid.mk7 (Z27.out.set (.int .i64 0) (.slice none 0 0))
                            have bb32 : Hid (RowKit.Below u16.heap.size u16 ((x27.setCell ⟨gz, 0, none⟩ (.int .i64 0)).setCell ⟨gz, 1, none⟩ (.slice none 0 0))) := below_set2 bb27.out hgz _ _
                            go_wp2
                            clear c0 c1 c2 fz fz2
                            generalize ((x27.setCell ⟨gz, 0, none⟩ (.int .i64 0)).setCell ⟨gz, 1, none⟩ (.slice none 0 0)) = x32 at *
                            refine anyNext_mk ⟨⟨_, RE25.out.later bb32.out⟩, rfl⟩ ?_
                            refine anyC_pick1 8 (by kernel_rfl) (by kernel_rfl) ?_
                            simp only [pickAll, pickAt, List.nil_append, List.cons_append, List.append_nil]
                            go_wp2
                            refine anyNext_mk ⟨⟨_, RE25.out.later bb32.out⟩, rfl⟩ ?_
                            refine anyC_pick1 11 (by kernel_rfl) (by kernel_rfl) ?_
                            simp only [pickAll, pickAt, List.nil_append, List.cons_append, List.append_nil]
                            go_wp2
                            refine anyNext_last (anyC_done (by kernel_rfl) ?_)
                            go_wp2
                            go_meet
                            exact ⟨gz, rfl, rfl, bb32⟩
                        · simp only [pickAll, pickAt, List.nil_append, List.cons_append, List.append_nil]
                          go_wp2
                          refine anyNext_mk ⟨⟨_, RE25.out.later bb27.out⟩, rfl⟩ ?_
                          refine anyC_pick1 7 (by kernel_rfl) (by kernel_rfl) ?_
                          simp only [pickAll, pickAt, List.nil_append, List.cons_append, List.append_nil]
                          go_wp2
                          refine anyNext_mk ⟨⟨_, RE25.out.later bb27.out⟩, rfl⟩ ?_
                          refine anyC_pick1 10 (by kernel_rfl) (by kernel_rfl) ?_
                          simp only [pickAll, pickAt, List.nil_append, List.cons_append, List.append_nil]
                          have c0 := Z27.out.c0
                          have c1 := Z27.out.c1
                          have fz := Z27.out.fz
                          have c2 : (x27.setCell ⟨gz, 0, none⟩ (.int .i64 0)).cell? ⟨gz, 1, none⟩ = some (.slice none 0 0) := (Z27.out.set0 _).c1
                          have fz2 := (Z27.out.set0 (.int .i64 0)).fz
                          have Z37 := Hid.mk7 (Z27.out.set (.int .i64 0) (.slice none 0 0))
                          have bb37 : Hid (RowKit.Below u16.heap.size u16 ((x27.setCell ⟨gz, 0, none⟩ (.int .i64 0)).setCell ⟨gz, 1, none⟩ (.slice none 0 0))) := below_set2 bb27.out hgz _ _
                          go_wp2
                          clear c0 c1 c2 fz fz2
                          generalize ((x27.setCell ⟨gz, 0, none⟩ (.int .i64 0)).setCell ⟨gz, 1, none⟩ (.slice none 0 0)) = x37 at *
                          refine anyNext_mk ⟨⟨_, RE25.out.later bb37.out⟩, rfl⟩ ?_
                          refine anyC_pick1 11 (by kernel_rfl) (by kernel_rfl) ?_
                          simp only [pickAll, pickAt, List.nil_append, List.cons_append, List.append_nil]
                          go_wp2
                          refine anyNext_last (anyC_done (by kernel_rfl) ?_)
                          go_wp2
                          go_meet
                          exact ⟨gz, rfl, rfl, bb37⟩
                    · simp only [pickAll, pickAt, List.nil_append, List.cons_append, List.append_nil]
                      have C39 := Hid.mk7 (C4.out.later (below_newE (RowKit.Below.refl _ _) (.cells #[.int .i64 0, .slice none 0 0] 24)))
                      have Z39 : Hid (Rd (x4.alloc (.cells #[.int .i64 0, .slice none 0 0] 24)) x4.heap.size (.int .i64 0) (.slice none 0 0)) := Rd.new _ _ _
                      have bb39 : Hid (RowKit.Below u16.heap.size u16 (x4.alloc (.cells #[.int .i64 0, .slice none 0 0] 24))) := bb4.out.alloc bb4.out.size _
                      have hgz := bb4.out.size
                      go_wp2
                      generalize (x4.alloc (.cells #[.int .i64 0, .slice none 0 0] 24)) = x39 at *
                      generalize x4.heap.size = gz at *
                      refine anyNext_mk ⟨⟨_, RE25.out.later bb39.out⟩, rfl⟩ ?_
                      refine anyC_pick1 6 (by kernel_rfl) (by kernel_rfl) ?_
                      simp only [pickAll, pickAt, List.nil_append, List.cons_append, List.append_nil]
                      go_wp2
                      refine anyNext_mk ⟨⟨_, RE25.out.later bb39.out⟩, rfl⟩ ?_
                      refine anyC_pick2 7 8 (by kernel_rfl) (by kernel_rfl) (by kernel_rfl) ?_ ?_
                      · simp only [pickAll, pickAt, List.nil_append, List.cons_append, List.append_nil]
                        go_wp2
                        refine anyNext_mk ⟨⟨_, RE25.out.later bb39.out⟩, rfl⟩ ?_
                        refine anyC_pick2 8 10 (by kernel_rfl) (by kernel_rfl) (by kernel_rfl) ?_ ?_
                        · simp only [pickAll, pickAt, List.nil_append, List.cons_append, List.append_nil]
                          go_wp2
                          refine anyNext_mk ⟨⟨_, RE25.out.later bb39.out⟩, rfl⟩ ?_
                          refine anyC_pick1 10 (by kernel_rfl) (by kernel_rfl) ?_
                          simp only [pickAll, pickAt, List.nil_append, List.cons_append, List.append_nil]
                          have c0 := Z39.out.c0
                          have c1 := Z39.out.c1
                          have fz := Z39.out.fz
                          have c2 : (x39.setCell ⟨gz, 0, none⟩ (.int .i64 0)).cell? ⟨gz, 1, none⟩ = some (.slice none 0 0) := (Z39.out.set0 _).c1
                          have fz2 := (Z39.out.set0 (.int .i64 0)).fz
                          have Z43 := Hid.mk7 (Z39.out.set (.int .i64 0) (.slice none 0 0))
                          have bb43 : Hid (RowKit.Below u16.heap.size u16 ((x39.setCell ⟨gz, 0, none⟩ (.int .i64 0)).setCell ⟨gz, 1, none⟩ (.slice none 0 0))) := below_set2 bb39.out hgz _ _
                          go_wp2
                          clear c0 c1 c2 fz fz2
                          generalize ((x39.setCell ⟨gz, 0, none⟩ (.int .i64 0)).setCell ⟨gz, 1, none⟩ (.slice none 0 0)) = x43 at *
                          refine anyNext_mk ⟨⟨_, RE25.out.later bb43.out⟩, rfl⟩ ?_
                          refine anyC_pick1 11 (by kernel_rfl) (by kernel_rfl) ?_
                          simp only [pickAll, pickAt, List.nil_append, List.cons_append, List.append_nil]
                          go_wp2
                          refine anyNext_last (anyC_done (by kernel_rfl) ?_)
                          go_wp2
                          go_meet
                          exact ⟨gz, rfl, rfl, bb43⟩
                        · simp only [pickAll, pickAt, List.nil_append, List.cons_append, List.append_nil]
                          have c0 := Z39.out.c0
                          have c1 := Z39.out.c1
                          have fz := Z39.out.fz
                          have c2 : (x39.setCell ⟨gz, 0, none⟩ (.int .i64 0)).cell? ⟨gz, 1, none⟩ = some (.slice none 0 0) := (Z39.out.set0 _).c1
                          have fz2 := (Z39.out.set0 (.int .i64 0)).fz
                          have Z45 := Hid.mk7 (Z39.out.set (.int .i64 0) (.slice none 0 0))
                          have bb45 : Hid (RowKit.Below u16.heap.size u16 ((x39.setCell ⟨gz, 0, none⟩ (.int .i64 0)).setCell ⟨gz, 1, none⟩ (.slice none 0 0))) := below_set2 bb39.out hgz _ _
                          go_wp2
                          clear c0 c1 c2 fz fz2
                          generalize ((x39.setCell ⟨gz, 0, none⟩ (.int .i64 0)).setCell ⟨gz, 1, none⟩ (.slice none 0 0)) = x45 at *
                          refine anyNext_mk ⟨⟨_, RE25.out.later bb45.out⟩, rfl⟩ ?_
                          refine anyC_pick1 8 (by kernel_rfl) (by kernel_rfl) ?_
                          simp only [pickAll, pickAt, List.nil_append, List.cons_append, List.append_nil]
                          go_wp2
                          refine anyNext_mk ⟨⟨_, RE25.out.later bb45.out⟩, rfl⟩ ?_
                          refine anyC_pick1 11 (by kernel_rfl) (by kernel_rfl) ?_
                          simp only [pickAll, pickAt, List.nil_append, List.cons_append, List.append_nil]
                          go_wp2
                          refine anyNext_last (anyC_done (by kernel_rfl) ?_)
                          go_wp2
                          go_meet
                          exact ⟨gz, rfl, rfl, bb45⟩
                      · simp only [pickAll, pickAt, List.nil_append, List.cons_append, List.append_nil]
                        go_wp2
                        refine anyNext_mk ⟨⟨_, RE25.out.later bb39.out⟩, rfl⟩ ?_
                        refine anyC_pick1 7 (by kernel_rfl) (by kernel_rfl) ?_
                        simp only [pickAll, pickAt, List.nil_append, List.cons_append, List.append_nil]
                        go_wp2
                        refine anyNext_mk ⟨⟨_, RE25.out.later bb39.out⟩, rfl⟩ ?_
                        refine anyC_pick1 10 (by kernel_rfl) (by kernel_rfl) ?_
                        simp only [pickAll, pickAt, List.nil_append, List.cons_append, List.append_nil]
                        have c0 := Z39.out.c0
                        have c1 := Z39.out.c1
                        have fz := Z39.out.fz
                        have c2 : (x39.setCell ⟨gz, 0, none⟩ (.int .i64 0)).cell? ⟨gz, 1, none⟩ = some (.slice none 0 0) := (Z39.out.set0 _).c1
                        have fz2 := (Z39.out.set0 (.int .i64 0)).fz
                        have Z50 := Hid.mk7 (Z39.out.set (.int .i64 0) (.slice none 0 0))
                        have bb50 : Hid (RowKit.Below u16.heap.size u16 ((x39.setCell ⟨gz, 0, none⟩ (.int .i64 0)).setCell ⟨gz, 1, none⟩ (.slice none 0 0))) := below_set2 bb39.out hgz _ _
                        go_wp2
                        clear c0 c1 c2 fz fz2
                        generalize ((x39.setCell ⟨gz, 0, none⟩ (.int .i64 0)).setCell ⟨gz, 1, none⟩ (.slice none 0 0)) = x50 at *
                        refine anyNext_mk ⟨⟨_, RE25.out.later bb50.out⟩, rfl⟩ ?_
                        refine anyC_pick1 11 (by kernel_rfl) (by kernel_rfl) ?_
                        simp only [pickAll, pickAt, List.nil_append, List.cons_append, List.append_nil]
                        go_wp2
                        refine anyNext_last (anyC_done (by kernel_rfl) ?_)
                        go_wp2
                        go_meet
                        exact ⟨gz, rfl, rfl, bb50⟩
                  · simp only [pickAll, pickAt, List.nil_append, List.cons_append, List.append_nil]
                    have C52 := Hid.mk7 (C3.out.later (below_newE (RowKit.Below.refl _ _) (.cells #[.int .i64 0, .slice none 0 0] 24)))
                    have Z52 : Hid (Rd (x3.alloc (.cells #[.int .i64 0, .slice none 0 0] 24)) x3.heap.size (.int .i64 0) (.slice none 0 0)) := Rd.new _ _ _
                    have bb52 : Hid (RowKit.Below u16.heap.size u16 (x3.alloc (.cells #[.int .i64 0, .slice none 0 0] 24))) := bb3.out.alloc bb3.out.size _
                    have hgz := bb3.out.size
                    go_wp2
                    generalize (x3.alloc (.cells #[.int .i64 0, .slice none 0 0] 24)) = x52 at *
                    generalize x3.heap.size = gz at *
                    refine anyNext_mk ⟨⟨_, RE25.out.later bb52.out⟩, rfl⟩ ?_
                    refine anyC_pick1 5 (by kernel_rfl) (by kernel_rfl) ?_
                    simp only [pickAll, pickAt, List.nil_append, List.cons_append, List.append_nil]
                    go_wp2_with fail
                    refine (HT3.out _ _ _ (E25.out.later bb52.out) C52.out (T25.out.later bb52.out)).mono ?_
                    rintro e x53 ⟨rfl, bz⟩
                    have C53 := Hid.mk7 (C52.out.later bz)
                    have Z53 := Hid.mk7 (Z52.out.later bz)
                    have bb53 : Hid (RowKit.Below u16.heap.size u16 x53) := bb52.out.trans (bz.mono bb52.out.size)
                    clear bz
                    go_wp2
                    refine anyNext_mk ⟨⟨_, RE25.out.later bb53.out⟩, rfl⟩ ?_
                    refine anyC_pick1 6 (by kernel_rfl) (by kernel_rfl) ?_
                    simp only [pickAll, pickAt, List.nil_append, List.cons_append, List.append_nil]
                    go_wp2
                    refine anyNext_mk ⟨⟨_, RE25.out.later bb53.out⟩, rfl⟩ ?_
                    refine anyC_pick2 7 8 (by kernel_rfl) (by kernel_rfl) (by kernel_rfl) ?_ ?_
                    · simp only [pickAll, pickAt, List.nil_append, List.cons_append, List.append_nil]
                      go_wp2
                      refine anyNext_mk ⟨⟨_, RE25.out.later bb53.out⟩, rfl⟩ ?_
                      refine anyC_pick2 8 10 (by kernel_rfl) (by kernel_rfl) (by kernel_rfl) ?_ ?_
                      · simp only [pickAll, pickAt, List.nil_append, List.cons_append, List.append_nil]
                        go_wp2
                        refine anyNext_mk ⟨⟨_, RE25.out.later bb53.out⟩, rfl⟩ ?_
                        refine anyC_pick1 10 (by kernel_rfl) (by kernel_rfl) ?_
                        simp only [pickAll, pickAt, List.nil_append, List.cons_append, List.append_nil]
                        have c0 := Z53.out.c0
                        have c1 := Z53.out.c1
                        have fz := Z53.out.fz
                        have c2 : (x53.setCell ⟨gz, 0, none⟩ (.int .i64 0)).cell? ⟨gz, 1, none⟩ = some (.slice none 0 0) := (Z53.out.set0 _).c1
                        have fz2 := (Z53.out.set0 (.int .i64 0)).fz
                        have Z57 := Hid.mk7 (Z53.out.set (.int .i64 0) (.slice none 0 0))
                        have bb57 : Hid (RowKit.Below u16.heap.size u16 ((x53.setCell ⟨gz, 0, none⟩ (.int .i64 0)).setCell ⟨gz, 1, none⟩ (.slice none 0 0))) := below_set2 bb53.out hgz _ _
                        go_wp2
                        clear c0 c1 c2 fz fz2
                        generalize ((x53.setCell ⟨gz, 0, none⟩ (.int .i64 0)).setCell ⟨gz, 1, none⟩ (.slice none 0 0)) = x57 at *
                        refine anyNext_mk ⟨⟨_, RE25.out.later bb57.out⟩, rfl⟩ ?_
                        refine anyC_pick1 11 (by kernel_rfl) (by kernel_rfl) ?_
                        simp only [pickAll, pickAt, List.nil_append, List.cons_append, List.append_nil]
                        go_wp2
                        refine anyNext_last (anyC_done (by kernel_rfl) ?_)
                        go_wp2
                        go_meet
                        exact ⟨gz, rfl, rfl, bb57⟩
                      · simp only [pickAll, pickAt, List.nil_append, List.cons_append, List.append_nil]
                        have c0 := Z53.out.c0
                        have c1 := Z53.out.c1
                        have fz := Z53.out.fz
                        have c2 : (x53.setCell ⟨gz, 0, none⟩ (.int .i64 0)).cell? ⟨gz, 1, none⟩ = some (.slice none 0 0) := (Z53.out.set0 _).c1
                        have fz2 := (Z53.out.set0 (.int .i64 0)).fz
                        have Z59 := Hid.mk7 (Z53.out.set (.int .i64 0) (.slice none 0 0))
                        have bb59 : Hid (RowKit.Below u16.heap.size u16 ((x53.setCell ⟨gz, 0, none⟩ (.int .i64 0)).setCell ⟨gz, 1, none⟩ (.slice none 0 0))) := below_set2 bb53.out hgz _ _
                        go_wp2
                        clear c0 c1 c2 fz fz2
                        generalize ((x53.setCell ⟨gz, 0, none⟩ (.int .i64 0)).setCell ⟨gz, 1, none⟩ (.slice none 0 0)) = x59 at *
                        refine anyNext_mk ⟨⟨_, RE25.out.later bb59.out⟩, rfl⟩ ?_
                        refine anyC_pick1 8 (by kernel_rfl) (by kernel_rfl) ?_
                        simp only [pickAll, pickAt, List.nil_append, List.cons_append, List.append_nil]
                        go_wp2
                        refine anyNext_mk ⟨⟨_, RE25.out.later bb59.out⟩, rfl⟩ ?_
                        refine anyC_pick1 11 (by kernel_rfl) (by kernel_rfl) ?_
                        simp only [pickAll, pickAt, List.nil_append, List.cons_append, List.append_nil]
                        go_wp2
                        refine anyNext_last (anyC_done (by kernel_rfl) ?_)
                        go_wp2
                        go_meet
                        exact ⟨gz, rfl, rfl, bb59⟩
                    · simp only [pickAll, pickAt, List.nil_append, List.cons_append, List.append_nil]
                      go_wp2
                      refine anyNext_mk ⟨⟨_, RE25.out.later bb53.out⟩, rfl⟩ ?_
                      refine anyC_pick1 7 (by kernel_rfl) (by kernel_rfl) ?_
                      simp only [pickAll, pickAt, List.nil_append, List.cons_append, List.append_nil]
                      go_wp2
                      refine anyNext_mk ⟨⟨_, RE25.out.later bb53.out⟩, rfl⟩ ?_
                      refine anyC_pick1 10 (by kernel_rfl) (by kernel_rfl) ?_
                      simp only [pickAll, pickAt, List.nil_append, List.cons_append, List.append_nil]
                      have c0 := Z53.out.c0
                      have c1 := Z53.out.c1
                      have fz := Z53.out.fz
                      have c2 : (x53.setCell ⟨gz, 0, none⟩ (.int .i64 0)).cell? ⟨gz, 1, none⟩ = some (.slice none 0 0) := (Z53.out.set0 _).c1
                      have fz2 := (Z53.out.set0 (.int .i64 0)).fz
                      have Z64 := Hid.mk7 (Z53.out.set (.int .i64 0) (.slice none 0 0))
                      have bb64 : Hid (RowKit.Below u16.heap.size u16 ((x53.setCell ⟨gz, 0, none⟩ (.int .i64 0)).setCell ⟨gz, 1, none⟩ (.slice none 0 0))) := below_set2 bb53.out hgz _ _
                      go_wp2
                      clear c0 c1 c2 fz fz2
                      generalize ((x53.setCell ⟨gz, 0, none⟩ (.int .i64 0)).setCell ⟨gz, 1, none⟩ (.slice none 0 0)) = x64 at *
                      refine anyNext_mk ⟨⟨_, RE25.out.later bb64.out⟩, rfl⟩ ?_
                      refine anyC_pick1 11 (by kernel_rfl) (by kernel_rfl) ?_
                      simp only [pickAll, pickAt, List.nil_append, List.cons_append, List.append_nil]
                      go_wp2
                      refine anyNext_last (anyC_done (by kernel_rfl) ?_)
                      go_wp2
                      go_meet
                      exact ⟨gz, rfl, rfl, bb64⟩
                · simp only [pickAll, pickAt, List.nil_append, List.cons_append, List.append_nil]
                  have Z66 : Hid (Rd (x1.alloc (.cells #[.int .i64 0, .slice none 0 0] 24)) x1.heap.size (.int .i64 0) (.slice none 0 0)) := Rd.new _ _ _
                  have bb66 : Hid (RowKit.Below u16.heap.size u16 (x1.alloc (.cells #[.int .i64 0, .slice none 0 0] 24))) := bb1.out.alloc bb1.out.size _
                  have hgz := bb1.out.size
                  go_wp2
                  generalize (x1.alloc (.cells #[.int .i64 0, .slice none 0 0] 24)) = x66 at *
                  generalize x1.heap.size = gz at *
                  refine anyNext_mk ⟨⟨_, RE25.out.later bb66.out⟩, rfl⟩ ?_
                  refine anyC_pick1 4 (by kernel_rfl) (by kernel_rfl) ?_
                  simp only [pickAll, pickAt, List.nil_append, List.cons_append, List.append_nil]
                  go_wp2_with fail
                  refine (HK3.out _).mono ?_
                  rintro e x67 ⟨kv, rfl, hy, bz⟩
                  have Z67 := Hid.mk7 (Z66.out.later bz)
                  have C67 := Hid.mk7 hy
                  have bb67 : Hid (RowKit.Below u16.heap.size u16 x67) := bb66.out.trans (bz.mono bb66.out.size)
                  clear bz hy
                  go_wp2
                  refine anyNext_mk ⟨⟨_, RE25.out.later bb67.out⟩, rfl⟩ ?_
                  refine anyC_pick1 5 (by kernel_rfl) (by kernel_rfl) ?_
                  simp only [pickAll, pickAt, List.nil_append, List.cons_append, List.append_nil]
                  go_wp2_with fail
                  refine (HT3.out _ _ _ (E25.out.later bb67.out) C67.out (T25.out.later bb67.out)).mono ?_
                  rintro e x68 ⟨rfl, bz⟩
                  have Z68 := Hid.mk7 (Z67.out.later bz)
                  have C68 := Hid.mk7 (C67.out.later bz)
                  have bb68 : Hid (RowKit.Below u16.heap.size u16 x68) := bb67.out.trans (bz.mono bb67.out.size)
                  clear bz
                  go_wp2
                  refine anyNext_mk ⟨⟨_, RE25.out.later bb68.out⟩, rfl⟩ ?_
                  refine anyC_pick1 6 (by kernel_rfl) (by kernel_rfl) ?_
                  simp only [pickAll, pickAt, List.nil_append, List.cons_append, List.append_nil]
                  go_wp2
                  refine anyNext_mk ⟨⟨_, RE25.out.later bb68.out⟩, rfl⟩ ?_
                  refine anyC_pick2 7 8 (by kernel_rfl) (by kernel_rfl) (by kernel_rfl) ?_ ?_
                  · simp only [pickAll, pickAt, List.nil_append, List.cons_append, List.append_nil]
                    go_wp2
                    refine anyNext_mk ⟨⟨_, RE25.out.later bb68.out⟩, rfl⟩ ?_
                    refine anyC_pick2 8 10 (by kernel_rfl) (by kernel_rfl) (by kernel_rfl) ?_ ?_
                    · simp only [pickAll, pickAt, List.nil_append, List.cons_append, List.append_nil]
                      go_wp2
                      refine anyNext_mk ⟨⟨_, RE25.out.later bb68.out⟩, rfl⟩ ?_
                      refine anyC_pick1 10 (by kernel_rfl) (by kernel_rfl) ?_
                      simp only [pickAll, pickAt, List.nil_append, List.cons_append, List.append_nil]
                      have c0 := Z68.out.c0
                      have c1 := Z68.out.c1
                      have fz := Z68.out.fz
                      have c2 : (x68.setCell ⟨gz, 0, none⟩ (.int .i64 0)).cell? ⟨gz, 1, none⟩ = some (.slice none 0 0) := (Z68.out.set0 _).c1
                      have fz2 := (Z68.out.set0 (.int .i64 0)).fz
                      have Z72 := Hid.mk7 (Z68.out.set (.int .i64 0) (.slice none 0 0))
                      have bb72 : Hid (RowKit.Below u16.heap.size u16 ((x68.setCell ⟨gz, 0, none⟩ (.int .i64 0)).setCell ⟨gz, 1, none⟩ (.slice none 0 0))) := below_set2 bb68.out hgz _ _
                      go_wp2
                      clear c0 c1 c2 fz fz2
                      generalize ((x68.setCell ⟨gz, 0, none⟩ (.int .i64 0)).setCell ⟨gz, 1, none⟩ (.slice none 0 0)) = x72 at *
                      refine anyNext_mk ⟨⟨_, RE25.out.later bb72.out⟩, rfl⟩ ?_
                      refine anyC_pick1 11 (by kernel_rfl) (by kernel_rfl) ?_
                      simp only [pickAll, pickAt, List.nil_append, List.cons_append, List.append_nil]
                      go_wp2
                      refine anyNext_last (anyC_done (by kernel_rfl) ?_)
                      go_wp2
                      go_meet
                      exact ⟨gz, rfl, rfl, bb72⟩
                    · simp only [pickAll, pickAt, List.nil_append, List.cons_append, List.append_nil]
                      have c0 := Z68.out.c0
                      have c1 := Z68.out.c1
                      have fz := Z68.out.fz
                      have c2 : (x68.setCell ⟨gz, 0, none⟩ (.int .i64 0)).cell? ⟨gz, 1, none⟩ = some (.slice none 0 0) := (Z68.out.set0 _).c1
                      have fz2 := (Z68.out.set0 (.int .i64 0)).fz
                      have Z74 := Hid.mk7 (Z68.out.set (.int .i64 0) (.slice none 0 0))
                      have bb74 : Hid (RowKit.Below u16.heap.size u16 ((x68.setCell ⟨gz, 0, none⟩ (.int .i64 0)).setCell ⟨gz, 1, none⟩ (.slice none 0 0))) := below_set2 bb68.out hgz _ _
                      go_wp2
                      clear c0 c1 c2 fz fz2
                      generalize ((x68.setCell ⟨gz, 0, none⟩ (.int .i64 0)).setCell ⟨gz, 1, none⟩ (.slice none 0 0)) = x74 at *
                      refine anyNext_mk ⟨⟨_, RE25.out.later bb74.out⟩, rfl⟩ ?_
                      refine anyC_pick1 8 (by kernel_rfl) (by kernel_rfl) ?_
                      simp only [pickAll, pickAt, List.nil_append, List.cons_append, List.append_nil]
                      go_wp2
                      refine anyNext_mk ⟨⟨_, RE25.out.later bb74.out⟩, rfl⟩ ?_
                      refine anyC_pick1 11 (by kernel_rfl) (by kernel_rfl) ?_
                      simp only [pickAll, pickAt, List.nil_append, List.cons_append, List.append_nil]
                      go_wp2
                      refine anyNext_last (anyC_done (by kernel_rfl) ?_)
                      go_wp2
                      go_meet
                      exact ⟨gz, rfl, rfl, bb74⟩
                  · simp only [pickAll, pickAt, List.nil_append, List.cons_append, List.append_nil]
                    go_wp2
                    refine anyNext_mk ⟨⟨_, RE25.out.later bb68.out⟩, rfl⟩ ?_
                    refine anyC_pick1 7 (by kernel_rfl) (by kernel_rfl) ?_
                    simp only [pickAll, pickAt, List.nil_append, List.cons_append, List.append_nil]
                    go_wp2
                    refine anyNext_mk ⟨⟨_, RE25.out.later bb68.out⟩, rfl⟩ ?_
                    refine anyC_pick1 10 (by kernel_rfl) (by kernel_rfl) ?_
                    simp only [pickAll, pickAt, List.nil_append, List.cons_append, List.append_nil]
                    have c0 := Z68.out.c0
                    have c1 := Z68.out.c1
                    have fz := Z68.out.fz
                    have c2 : (x68.setCell ⟨gz, 0, none⟩ (.int .i64 0)).cell? ⟨gz, 1, none⟩ = some (.slice none 0 0) := (Z68.out.set0 _).c1
                    have fz2 := (Z68.out.set0 (.int .i64 0)).fz
                    have Z79 := Hid.mk7 (Z68.out.set (.int .i64 0) (.slice none 0 0))
                    have bb79 : Hid (RowKit.Below u16.heap.size u16 ((x68.setCell ⟨gz, 0, none⟩ (.int .i64 0)).setCell ⟨gz, 1, none⟩ (.slice none 0 0))) := below_set2 bb68.out hgz _ _
                    go_wp2
                    clear c0 c1 c2 fz fz2
                    generalize ((x68.setCell ⟨gz, 0, none⟩ (.int .i64 0)).setCell ⟨gz, 1, none⟩ (.slice none 0 0)) = x79 at *
                    refine anyNext_mk ⟨⟨_, RE25.out.later bb79.out⟩, rfl⟩ ?_
                    refine anyC_pick1 11 (by kernel_rfl) (by kernel_rfl) ?_
                    simp only [pickAll, pickAt, List.nil_append, List.cons_append, List.append_nil]
                    go_wp2
                    refine anyNext_last (anyC_done (by kernel_rfl) ?_)
                    go_wp2
                    go_meet
                    exact ⟨gz, rfl, rfl, bb79⟩
              · simp only [pickAll, pickAt, List.nil_append, List.cons_append, List.append_nil]
                have Z81 : Hid (Rd (x1.alloc (.cells #[.int .i64 0, .slice none 0 0] 24)) x1.heap.size (.int .i64 0) (.slice none 0 0)) := Rd.new _ _ _
                have bb81 : Hid (RowKit.Below u16.heap.size u16 (x1.alloc (.cells #[.int .i64 0, .slice none 0 0] 24))) := bb1.out.alloc bb1.out.size _
                have hgz := bb1.out.size
                go_wp2
                generalize (x1.alloc (.cells #[.int .i64 0, .slice none 0 0] 24)) = x81 at *
                generalize x1.heap.size = gz at *
                refine anyNext_mk ⟨⟨_, RE25.out.later bb81.out⟩, rfl⟩ ?_
                refine anyC_pick1 3 (by kernel_rfl) (by kernel_rfl) ?_
                simp only [pickAll, pickAt, List.nil_append, List.cons_append, List.append_nil]
                go_wp2
                refine anyNext_mk ⟨⟨_, RE25.out.later bb81.out⟩, rfl⟩ ?_
                refine anyC_pick1 4 (by kernel_rfl) (by kernel_rfl) ?_
                simp only [pickAll, pickAt, List.nil_append, List.cons_append, List.append_nil]
                go_wp2_with fail
                refine (HK3.out _).mono ?_
                rintro e x83 ⟨kv, rfl, hy, bz⟩
                have Z83 := Hid.mk7 (Z81.out.later bz)
                have C83 := Hid.mk7 hy
                have bb83 : Hid (RowKit.Below u16.heap.size u16 x83) := bb81.out.trans (bz.mono bb81.out.size)
                clear bz hy
                go_wp2
                refine anyNext_mk ⟨⟨_, RE25.out.later bb83.out⟩, rfl⟩ ?_
                refine anyC_pick1 5 (by kernel_rfl) (by kernel_rfl) ?_
                simp only [pickAll, pickAt, List.nil_append, List.cons_append, List.append_nil]
                go_wp2_with fail
                refine (HT3.out _ _ _ (E25.out.later bb83.out) C83.out (T25.out.later bb83.out)).mono ?_
                rintro e x84 ⟨rfl, bz⟩
                have Z84 := Hid.mk7 (Z83.out.later bz)
                have C84 := Hid.mk7 (C83.out.later bz)
                have bb84 : Hid (RowKit.Below u16.heap.size u16 x84) := bb83.out.trans (bz.mono bb83.out.size)
                clear bz
                go_wp2
                refine anyNext_mk ⟨⟨_, RE25.out.later bb84.out⟩, rfl⟩ ?_
                refine anyC_pick1 6 (by kernel_rfl) (by kernel_rfl) ?_
                simp only [pickAll, pickAt, List.nil_append, List.cons_append, List.append_nil]
                go_wp2
                refine anyNext_mk ⟨⟨_, RE25.out.later bb84.out⟩, rfl⟩ ?_
                refine anyC_pick2 7 8 (by kernel_rfl) (by kernel_rfl) (by kernel_rfl) ?_ ?_
                · simp only [pickAll, pickAt, List.nil_append, List.cons_append, List.append_nil]
                  go_wp2
                  refine anyNext_mk ⟨⟨_, RE25.out.later bb84.out⟩, rfl⟩ ?_
                  refine anyC_pick2 8 10 (by kernel_rfl) (by kernel_rfl) (by kernel_rfl) ?_ ?_
                  · simp only [pickAll, pickAt, List.nil_append, List.cons_append, List.append_nil]
                    go_wp2
                    refine anyNext_mk ⟨⟨_, RE25.out.later bb84.out⟩, rfl⟩ ?_
                    refine anyC_pick1 10 (by kernel_rfl) (by kernel_rfl) ?_
                    simp only [pickAll, pickAt, List.nil_append, List.cons_append, List.append_nil]
                    have c0 := Z84.out.c0
                    have c1 := Z84.out.c1
                    have fz := Z84.out.fz
                    have c2 : (x84.setCell ⟨gz, 0, none⟩ (.int .i64 0)).cell? ⟨gz, 1, none⟩ = some (.slice none 0 0) := (Z84.out.set0 _).c1
                    have fz2 := (Z84.out.set0 (.int .i64 0)).fz
                    have Z88 := Hid.mk7 (Z84.out.set (.int .i64 0) (.slice none 0 0))
                    have bb88 : Hid (RowKit.Below u16.heap.size u16 ((x84.setCell ⟨gz, 0, none⟩ (.int .i64 0)).setCell ⟨gz, 1, none⟩ (.slice none 0 0))) := below_set2 bb84.out hgz _ _
                    go_wp2
                    clear c0 c1 c2 fz fz2
                    generalize ((x84.setCell ⟨gz, 0, none⟩ (.int .i64 0)).setCell ⟨gz, 1, none⟩ (.slice none 0 0)) = x88 at *
                    refine anyNext_mk ⟨⟨_, RE25.out.later bb88.out⟩, rfl⟩ ?_
                    refine anyC_pick1 11 (by kernel_rfl) (by kernel_rfl) ?_
                    simp only [pickAll, pickAt, List.nil_append, List.cons_append, List.append_nil]
                    go_wp2
                    refine anyNext_last (anyC_done (by kernel_rfl) ?_)
                    go_wp2
                    go_meet
                    exact ⟨gz, rfl, rfl, bb88⟩
                  · simp only [pickAll, pickAt, List.nil_append, List.cons_append, List.append_nil]
                    have c0 := Z84.out.c0
                    have c1 := Z84.out.c1
                    have fz := Z84.out.fz
                    have c2 : (x84.setCell ⟨gz, 0, none⟩ (.int .i64 0)).cell? ⟨gz, 1, none⟩ = some (.slice none 0 0) := (Z84.out.set0 _).c1
                    have fz2 := (Z84.out.set0 (.int .i64 0)).fz
                    have Z90 := Hid.mk7 (Z84.out.set (.int .i64 0) (.slice none 0 0))
                    have bb90 : Hid (RowKit.Below u16.heap.size u16 ((x84.setCell ⟨gz, 0, none⟩ (.int .i64 0)).setCell ⟨gz, 1, none⟩ (.slice none 0 0))) := below_set2 bb84.out hgz _ _
                    go_wp2
                    clear c0 c1 c2 fz fz2
                    generalize ((x84.setCell ⟨gz, 0, none⟩ (.int .i64 0)).setCell ⟨gz, 1, none⟩ (.slice none 0 0)) = x90 at *
                    refine anyNext_mk ⟨⟨_, RE25.out.later bb90.out⟩, rfl⟩ ?_
                    refine anyC_pick1 8 (by kernel_rfl) (by kernel_rfl) ?_
                    simp only [pickAll, pickAt, List.nil_append, List.cons_append, List.append_nil]
                    go_wp2
                    refine anyNext_mk ⟨⟨_, RE25.out.later bb90.out⟩, rfl⟩ ?_
                    refine anyC_pick1 11 (by kernel_rfl) (by kernel_rfl) ?_
                    simp only [pickAll, pickAt, List.nil_append, List.cons_append, List.append_nil]
                    go_wp2
                    refine anyNext_last (anyC_done (by kernel_rfl) ?_)
                    go_wp2
                    go_meet
                    exact ⟨gz, rfl, rfl, bb90⟩
                · simp only [pickAll, pickAt, List.nil_append, List.cons_append, List.append_nil]
                  go_wp2
                  refine anyNext_mk ⟨⟨_, RE25.out.later bb84.out⟩, rfl⟩ ?_
                  refine anyC_pick1 7 (by kernel_rfl) (by kernel_rfl) ?_
                  simp only [pickAll, pickAt, List.nil_append, List.cons_append, List.append_nil]
                  go_wp2
                  refine anyNext_mk ⟨⟨_, RE25.out.later bb84.out⟩, rfl⟩ ?_
                  refine anyC_pick1 10 (by kernel_rfl) (by kernel_rfl) ?_
                  simp only [pickAll, pickAt, List.nil_append, List.cons_append, List.append_nil]
                  have c0 := Z84.out.c0
                  have c1 := Z84.out.c1
                  have fz := Z84.out.fz
                  have c2 : (x84.setCell ⟨gz, 0, none⟩ (.int .i64 0)).cell? ⟨gz, 1, none⟩ = some (.slice none 0 0) := (Z84.out.set0 _).c1
                  have fz2 := (Z84.out.set0 (.int .i64 0)).fz
                  have Z95 := Hid.mk7 (Z84.out.set (.int .i64 0) (.slice none 0 0))
                  have bb95 : Hid (RowKit.Below u16.heap.size u16 ((x84.setCell ⟨gz, 0, none⟩ (.int .i64 0)).setCell ⟨gz, 1, none⟩ (.slice none 0 0))) := below_set2 bb84.out hgz _ _
                  go_wp2
                  clear c0 c1 c2 fz fz2
                  generalize ((x84.setCell ⟨gz, 0, none⟩ (.int .i64 0)).setCell ⟨gz, 1, none⟩ (.slice none 0 0)) = x95 at *
                  refine anyNext_mk ⟨⟨_, RE25.out.later bb95.out⟩, rfl⟩ ?_
                  refine anyC_pick1 11 (by kernel_rfl) (by kernel_rfl) ?_
                  simp only [pickAll, pickAt, List.nil_append, List.cons_append, List.append_nil]
                  go_wp2
                  refine anyNext_last (anyC_done (by kernel_rfl) ?_)
                  go_wp2
                  go_meet
                  exact ⟨gz, rfl, rfl, bb95⟩
            · simp only [pickAll, pickAt, List.nil_append, List.cons_append, List.append_nil]
              have Z97 : Hid (Rd (x0.alloc (.cells #[.int .i64 0, .slice none 0 0] 24)) x0.heap.size (.int .i64 0) (.slice none 0 0)) := Rd.new _ _ _
              have bb97 : Hid (RowKit.Below u16.heap.size u16 (x0.alloc (.cells #[.int .i64 0, .slice none 0 0] 24))) := bb0.out.alloc bb0.out.size _
              have hgz := bb0.out.size
              go_wp2
              generalize (x0.alloc (.cells #[.int .i64 0, .slice none 0 0] 24)) = x97 at *
              generalize x0.heap.size = gz at *
              refine anyNext_mk ⟨⟨_, RE25.out.later bb97.out⟩, rfl⟩ ?_
              refine anyC_pick1 2 (by kernel_rfl) (by kernel_rfl) ?_
              simp only [pickAll, pickAt, List.nil_append, List.cons_append, List.append_nil]
              go_wp2_with fail
              refine (HSZ.out _ _ (E25.out.later bb97.out) (T25.out.later bb97.out)).mono ?_
              rintro e x98 ⟨rfl, bz⟩
              have Z98 := Hid.mk7 (Z97.out.later bz)
              have bb98 : Hid (RowKit.Below u16.heap.size u16 x98) := bb97.out.trans (bz.mono bb97.out.size)
              clear bz
              go_wp2
              refine anyNext_mk ⟨⟨_, RE25.out.later bb98.out⟩, rfl⟩ ?_
              refine anyC_pick1 3 (by kernel_rfl) (by kernel_rfl) ?_
              simp only [pickAll, pickAt, List.nil_append, List.cons_append, List.append_nil]
              go_wp2
              refine anyNext_mk ⟨⟨_, RE25.out.later bb98.out⟩, rfl⟩ ?_
              refine anyC_pick1 4 (by kernel_rfl) (by kernel_rfl) ?_
              simp only [pickAll, pickAt, List.nil_append, List.cons_append, List.append_nil]
              go_wp2_with fail
              refine (HK3.out _).mono ?_
              rintro e x100 ⟨kv, rfl, hy, bz⟩
              have Z100 := Hid.mk7 (Z98.out.later bz)
              have C100 := Hid.mk7 hy
              have bb100 : Hid (RowKit.Below u16.heap.size u16 x100) := bb98.out.trans (bz.mono bb98.out.size)
              clear bz hy
              go_wp2
              refine anyNext_mk ⟨⟨_, RE25.out.later bb100.out⟩, rfl⟩ ?_
              refine anyC_pick1 5 (by kernel_rfl) (by kernel_rfl) ?_
              simp only [pickAll, pickAt, List.nil_append, List.cons_append, List.append_nil]
              go_wp2_with fail
              refine (HT3.out _ _ _ (E25.out.later bb100.out) C100.out (T25.out.later bb100.out)).mono ?_
              rintro e x101 ⟨rfl, bz⟩
              have Z101 := Hid.mk7 (Z100.out.later bz)
              have C101 := Hid.mk7 (C100.out.later bz)
              have bb101 : Hid (RowKit.Below u16.heap.size u16 x101) := bb100.out.trans (bz.mono bb100.out.size)
              clear bz
              go_wp2
              refine anyNext_mk ⟨⟨_, RE25.out.later bb101.out⟩, rfl⟩ ?_
              refine anyC_pick1 6 (by kernel_rfl) (by kernel_rfl) ?_
              simp only [pickAll, pickAt, List.nil_append, List.cons_append, List.append_nil]
              go_wp2
              refine anyNext_mk ⟨⟨_, RE25.out.later bb101.out⟩, rfl⟩ ?_
              refine anyC_pick2 7 8 (by kernel_rfl) (by kernel_rfl) (by kernel_rfl) ?_ ?_
              · simp only [pickAll, pickAt, List.nil_append, List.cons_append, List.append_nil]
                go_wp2
                refine anyNext_mk ⟨⟨_, RE25.out.later bb101.out⟩, rfl⟩ ?_
                refine anyC_pick2 8 10 (by kernel_rfl) (by kernel_rfl) (by kernel_rfl) ?_ ?_
                · simp only [pickAll, pickAt, List.nil_append, List.cons_append, List.append_nil]
                  go_wp2
                  refine anyNext_mk ⟨⟨_, RE25.out.later bb101.out⟩, rfl⟩ ?_
                  refine anyC_pick1 10 (by kernel_rfl) (by kernel_rfl) ?_
                  simp only [pickAll, pickAt, List.nil_append, List.cons_append, List.append_nil]
                  have c0 := Z101.out.c0
                  have c1 := Z101.out.c1
                  have fz := Z101.out.fz
                  have c2 : (x101.setCell ⟨gz, 0, none⟩ (.int .i64 0)).cell? ⟨gz, 1, none⟩ = some (.slice none 0 0) := (Z101.out.set0 _).c1
                  have fz2 := (Z101.out.set0 (.int .i64 0)).fz
                  have Z105 := Hid.mk7 (Z101.out.set (.int .i64 0) (.slice none 0 0))
                  have bb105 : Hid (RowKit.Below u16.heap.size u16 ((x101.setCell ⟨gz, 0, none⟩ (.int .i64 0)).setCell ⟨gz, 1, none⟩ (.slice none 0 0))) := below_set2 bb101.out hgz _ _
                  go_wp2
                  clear c0 c1 c2 fz fz2
                  generalize ((x101.setCell ⟨gz, 0, none⟩ (.int .i64 0)).setCell ⟨gz, 1, none⟩ (.slice none 0 0)) = x105 at *
                  refine anyNext_mk ⟨⟨_, RE25.out.later bb105.out⟩, rfl⟩ ?_
                  refine anyC_pick1 11 (by kernel_rfl) (by kernel_rfl) ?_
                  simp only [pickAll, pickAt, List.nil_append, List.cons_append, List.append_nil]
                  go_wp2
                  refine anyNext_last (anyC_done (by kernel_rfl) ?_)
                  go_wp2
                  go_meet
                  exact ⟨gz, rfl, rfl, bb105⟩
                · simp only [pickAll, pickAt, List.nil_append, List.cons_append, List.append_nil]
                  have c0 := Z101.out.c0
                  have c1 := Z101.out.c1
                  have fz := Z101.out.fz
                  have c2 : (x101.setCell ⟨gz, 0, none⟩ (.int .i64 0)).cell? ⟨gz, 1, none⟩ = some (.slice none 0 0) := (Z101.out.set0 _).c1
                  have fz2 := (Z101.out.set0 (.int .i64 0)).fz
                  have Z107 := Hid.mk7 (Z101.out.set (.int .i64 0) (.slice none 0 0))
                  have bb107 : Hid (RowKit.Below u16.heap.size u16 ((x101.setCell ⟨gz, 0, none⟩ (.int .i64 0)).setCell ⟨gz, 1, none⟩ (.slice none 0 0))) := below_set2 bb101.out hgz _ _
                  go_wp2
                  clear c0 c1 c2 fz fz2
                  generalize ((x101.setCell ⟨gz, 0, none⟩ (.int .i64 0)).setCell ⟨gz, 1, none⟩ (.slice none 0 0)) = x107 at *
                  refine anyNext_mk ⟨⟨_, RE25.out.later bb107.out⟩, rfl⟩ ?_
                  refine anyC_pick1 8 (by kernel_rfl) (by kernel_rfl) ?_
                  simp only [pickAll, pickAt, List.nil_append, List.cons_append, List.append_nil]
                  go_wp2
                  refine anyNext_mk ⟨⟨_, RE25.out.later bb107.out⟩, rfl⟩ ?_
                  refine anyC_pick1 11 (by kernel_rfl) (by kernel_rfl) ?_
                  simp only [pickAll, pickAt, List.nil_append, List.cons_append, List.append_nil]
                  go_wp2
                  refine anyNext_last (anyC_done (by kernel_rfl) ?_)
                  go_wp2
                  go_meet
                  exact ⟨gz, rfl, rfl, bb107⟩
              · simp only [pickAll, pickAt, List.nil_append, List.cons_append, List.append_nil]
                go_wp2
                refine anyNext_mk ⟨⟨_, RE25.out.later bb101.out⟩, rfl⟩ ?_
                refine anyC_pick1 7 (by kernel_rfl) (by kernel_rfl) ?_
                simp only [pickAll, pickAt, List.nil_append, List.cons_append, List.append_nil]
                go_wp2
                refine anyNext_mk ⟨⟨_, RE25.out.later bb101.out⟩, rfl⟩ ?_
                refine anyC_pick1 10 (by kernel_rfl) (by kernel_rfl) ?_
                simp only [pickAll, pickAt, List.nil_append, List.cons_append, List.append_nil]
                have c0 := Z101.out.c0
                have c1 := Z101.out.c1
                have fz := Z101.out.fz
                have c2 : (x101.setCell ⟨gz, 0, none⟩ (.int .i64 0)).cell? ⟨gz, 1, none⟩ = some (.slice none 0 0) := (Z101.out.set0 _).c1
                have fz2 := (Z101.out.set0 (.int .i64 0)).fz
                have Z112 := Hid.mk7 (Z101.out.set (.int .i64 0) (.slice none 0 0))
                have bb112 : Hid (RowKit.Below u16.heap.size u16 ((x101.setCell ⟨gz, 0, none⟩ (.int .i64 0)).setCell ⟨gz, 1, none⟩ (.slice none 0 0))) := below_set2 bb101.out hgz _ _
                go_wp2
                clear c0 c1 c2 fz fz2
                generalize ((x101.setCell ⟨gz, 0, none⟩ (.int .i64 0)).setCell ⟨gz, 1, none⟩ (.slice none 0 0)) = x112 at *
                refine anyNext_mk ⟨⟨_, RE25.out.later bb112.out⟩, rfl⟩ ?_
                refine anyC_pick1 11 (by kernel_rfl) (by kernel_rfl) ?_
                simp only [pickAll, pickAt, List.nil_append, List.cons_append, List.append_nil]
                go_wp2
                refine anyNext_last (anyC_done (by kernel_rfl) ?_)
                go_wp2
                go_meet
                exact ⟨gz, rfl, rfl, bb112⟩
          case rest =>
            generalize wc = yD at *
            obtain ⟨gD, rfl, rfl, BBD⟩ := hcut
            have bz := BBD.out
            have L26 := Hid.mk7 (L25.out.later bz)
            have T26 := Hid.mk7 (T25.out.later bz)
            have G26 := Hid.mk7 (G25.out.trans (bz.mono G25.out.size))
            have E26 := Hid.mk7 (E25.out.later bz)
            have RE26 := Hid.mk7 (RE25.out.later bz)
            have RA26 := Hid.mk7 (RA25.out.later bz)
            have YA26 := Hid.mk7 (YA25.out.later bz)
            have RB26 := Hid.mk7 (RB25.out.later bz)
            have YB26 := Hid.mk7 (YB25.out.later bz)
            have YC26 := Hid.mk7 (YC25.out.later bz)
            have RC26 := Hid.mk7 (nw24.out.later bz)
            clear L25 T25 G25 E25 RE25 RA25 YA25 RB25 YB25 YC25 nw24 bz
            clear HK1 HK2 HK3 HT1 HT2 HT3 HSZ HAL
            have REc0 := RE26.out.c0
            have REc1 := RE26.out.c1
            have RAc0 := RA26.out.c0
            have RAc1 := RA26.out.c1
            have RBc0 := RB26.out.c0
            have RBc1 := RB26.out.c1
            have RCc0 := RC26.out.c0
            have RCc1 := RC26.out.c1
            go_wp2_with fail
            refine (same_v (t := true) (by simp) (by omega) YA26.out E26.out).mono ?_
            rintro e w27 ⟨rfl, bz⟩
            clear REc0 REc1 RAc0 RAc1 RBc0 RBc1 RCc0 RCc1
            have L28 := Hid.mk7 (L26.out.later bz)
            have T28 := Hid.mk7 (T26.out.later bz)
            have G28 := Hid.mk7 (G26.out.trans (bz.mono G26.out.size))
            have E28 := Hid.mk7 (E26.out.later bz)
            have RE28 := Hid.mk7 (RE26.out.later bz)
            have RA28 := Hid.mk7 (RA26.out.later bz)
            have YA28 := Hid.mk7 (YA26.out.later bz)
            have RB28 := Hid.mk7 (RB26.out.later bz)
            have YB28 := Hid.mk7 (YB26.out.later bz)
            have YC28 := Hid.mk7 (YC26.out.later bz)
            have RC28 := Hid.mk7 (RC26.out.later bz)
            clear L26 T26 G26 E26 RE26 RA26 YA26 RB26 YB26 YC26 RC26 bz
            have REc0 := RE28.out.c0
            have REc1 := RE28.out.c1
            have RAc0 := RA28.out.c0
            have RAc1 := RA28.out.c1
            have RBc0 := RB28.out.c0
            have RBc1 := RB28.out.c1
            have RCc0 := RC28.out.c0
            have RCc1 := RC28.out.c1
            go_wp2_with fail
            refine (same_v (t := true) (by simp) (by omega) YB28.out E28.out).mono ?_
            rintro e w29 ⟨rfl, bz⟩
            clear REc0 REc1 RAc0 RAc1 RBc0 RBc1 RCc0 RCc1
            have L30 := Hid.mk7 (L28.out.later bz)
            have T30 := Hid.mk7 (T28.out.later bz)
            have G30 := Hid.mk7 (G28.out.trans (bz.mono G28.out.size))
            have E30 := Hid.mk7 (E28.out.later bz)
            have RE30 := Hid.mk7 (RE28.out.later bz)
            have RA30 := Hid.mk7 (RA28.out.later bz)
            have YA30 := Hid.mk7 (YA28.out.later bz)
            have RB30 := Hid.mk7 (RB28.out.later bz)
            have YB30 := Hid.mk7 (YB28.out.later bz)
            have YC30 := Hid.mk7 (YC28.out.later bz)
            have RC30 := Hid.mk7 (RC28.out.later bz)
            clear L28 T28 G28 E28 RE28 RA28 YA28 RB28 YB28 YC28 RC28 bz
            have REc0 := RE30.out.c0
            have REc1 := RE30.out.c1
            have RAc0 := RA30.out.c0
            have RAc1 := RA30.out.c1
            have RBc0 := RB30.out.c0
            have RBc1 := RB30.out.c1
            have RCc0 := RC30.out.c0
            have RCc1 := RC30.out.c1
            go_wp2_with fail
            refine (same_v (t := true) (by simp) (by omega) YC30.out E30.out).mono ?_
            rintro e w31 ⟨rfl, bz⟩
            clear REc0 REc1 RAc0 RAc1 RBc0 RBc1 RCc0 RCc1
            have L32 := Hid.mk7 (L30.out.later bz)
            have T32 := Hid.mk7 (T30.out.later bz)
            have G32 := Hid.mk7 (G30.out.trans (bz.mono G30.out.size))
            have E32 := Hid.mk7 (E30.out.later bz)
            have RE32 := Hid.mk7 (RE30.out.later bz)
            have RA32 := Hid.mk7 (RA30.out.later bz)
            have YA32 := Hid.mk7 (YA30.out.later bz)
            have RB32 := Hid.mk7 (RB30.out.later bz)
            have YB32 := Hid.mk7 (YB30.out.later bz)
            have YC32 := Hid.mk7 (YC30.out.later bz)
            have RC32 := Hid.mk7 (RC30.out.later bz)
            clear L30 T30 G30 E30 RE30 RA30 YA30 RB30 YB30 YC30 RC30 bz
            go_wp2
            go_ret
            exact ⟨rfl, G32.out⟩
end Go.Proofs.YtiienebioebjpaaDoor
