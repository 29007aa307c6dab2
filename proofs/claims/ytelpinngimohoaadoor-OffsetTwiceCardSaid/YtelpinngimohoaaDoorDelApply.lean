/- Apply. -/
import Derived.Test.YtelpinngimohoaaDoorDelSize
import Derived.Test.YtelpinngimohoaaDoorCopyStr
import Derived.Deep.CutRange
namespace Go.Proofs.YtelpinngimohoaaDoor
open Go.RowKit Go.Sort Go.Lib
set_option linter.unusedSimpArgs false
set_option linter.unusedVariables false

theorem mixNext_belowE {P : Program} {l : List Oper} {Q : Exit → Act → World → Prop} {r : List (List Nat × List Nat)} {a : Act} {w w3 : World} (hb : RowKit.Below w.heap.size w w3) (h : wpPlan P l (fun w' => ∃ p : Regrown, w' = grow (redrawn w p.d) p.os) Q r a w3) :
    MixNext P l (fun w' => ∃ p : Regrown, w' = grow (redrawn w p.d) p.os) Q r .normal a w3 := mixNext_mk (regrown_of_below hb) h
theorem below_redrawnE (w : World) (d : Nat) : RowKit.Below w.heap.size w (redrawn w d) := by have := below_regrown w d #[]; rwa [grow_empty] at this
/-- What elements make of a text, as it is made. -/
def ap1 (s : List UInt8) (e : El) : List UInt8 := (s.drop e.1.toNat).take (e.2.1 - e.1).toNat ++ e.2.2
def ape (s : List UInt8) (es : List El) : List UInt8 := es.flatMap (ap1 s)
theorem ape_append (s : List UInt8) (a b : List El) : ape s (a ++ b) = ape s a ++ ape s b := by simp [ape]
def Inn (es : List El) (n : Nat) : Prop := ∀ e ∈ es, 0 ≤ e.1 ∧ e.1 ≤ e.2.1 ∧ e.2.1 ≤ n
theorem nm_inn {base : Int} {n : Nat} (hb : base ≤ n) : ∀ (es : List El) (last : Int) (k : Nat), 0 ≤ last → Nm base last k es → Inn es n
  | [], _, _, _, _ => fun e h => by cases h
  | (f, t, T) :: es, last, k, h0, h => by
    by_cases hT : T = []
    · rw [Nm, if_pos hT] at h
      have ih := nm_inn hb es t 2 (by omega) h.2.2.2.2
      intro e he
      rcases List.mem_cons.1 he with rfl | he
      · simp only; omega
      · exact ih e he
    · rw [Nm, if_neg hT] at h
      have ih := nm_inn hb es last 1 h0 h.2.2.2
      intro e he
      rcases List.mem_cons.1 he with rfl | he
      · simp only; omega
      · exact ih e he
theorem nm_kind {base : Int} : ∀ (es : List El) (last : Int) (k : Nat), Nm base last k es → ∀ e ∈ es, (e.2.2 = [] ∧ e.1 < e.2.1) ∨ (e.2.2 ≠ [] ∧ e.1 = 0 ∧ e.2.1 = 0)
  | [], _, _, _ => fun e h => by cases h
  | (f, t, T) :: es, last, k, h => by
    by_cases hT : T = []
    · rw [Nm, if_pos hT] at h
      have ih := nm_kind es t 2 h.2.2.2.2
      intro e he
      rcases List.mem_cons.1 he with rfl | he
      · exact Or.inl ⟨hT, h.2.2.1⟩
      · exact ih e he
    · rw [Nm, if_neg hT] at h
      have ih := nm_kind es last 1 h.2.2.2
      intro e he
      rcases List.mem_cons.1 he with rfl | he
      · exact Or.inr ⟨hT, h.1, h.2.1⟩
      · exact ih e he
theorem ap1_len {s : List UInt8} {e : El} (h : 0 ≤ e.1 ∧ e.1 ≤ e.2.1 ∧ e.2.1 ≤ s.length) : ((ap1 s e).length : Int) = (e.2.1 - e.1) + (e.2.2.length : Int) := by
  unfold ap1
  rw [List.length_append, List.length_take, List.length_drop]
  omega
theorem ape_len {s : List UInt8} : ∀ (es : List El), Inn es s.length → ((ape s es).length : Int) = cpS es + (inS es : Int)
  | [], _ => rfl
  | e :: es, h => by
    have ih := ape_len es (fun x hx => h x (by simp [hx]))
    have h1 := ap1_len (h e (by simp))
    show ((ap1 s e ++ ape s es).length : Int) = _
    rw [List.length_append]
    simp only [cpS, inS, List.map_cons, List.sum_cons] at *
    omega
theorem ape_apl {base : Int} {s : List UInt8} (hb : base ≤ s.length) (es : List El) (h : Nm base 0 0 es) : ape s es = apl (cel es) s := by
  rw [apl_cel hb es 0 0 (Int.le_refl _) h]
  have : ∀ (es : List El) (last : Int) (k : Nat), Nm base last k es → ape s es = es.flatMap fun e => e.2.2 ++ (s.drop e.1.toNat).take (e.2.1 - e.1).toNat := by
    intro es
    induction es with
    | nil => intros; rfl
    | cons e es ih =>
      obtain ⟨f, t, T⟩ := e
      intro last k h
      by_cases hT : T = []
      · subst hT
        rw [Nm, if_pos rfl] at h
        show ap1 s (f, t, []) ++ ape s es = _
        rw [ih t 2 h.2.2.2.2, List.flatMap_cons]
        simp [ap1]
      · rw [Nm, if_neg hT] at h
        obtain ⟨rfl, rfl, _, h4⟩ := h
        show ap1 s (0, 0, T) ++ ape s es = _
        rw [ih last 1 h4, List.flatMap_cons]
        simp [ap1]
  exact this es 0 0 h
set_option maxHeartbeats 2000000 in
set_option maxRecDepth 100000 in
theorem apply_form {w : World} {v : Value} {es : List El} (base : Int) (s : ByteArray) (h : ElAt w v es) (hsm : Sm es 281474976710656) (tb : Nat × Nat) (hT : Tab w tb) (hi : isB base es = false) :
    Calls Tryd.prog 21 #[.agg #[.int .i64 base, v], .string s] w fun e w' => e = .returned (.tuple #[.string ⟨#[]⟩, .int .i64 12]) ∧ RowKit.Below w.heap.size w w' := by
  have HV := Hid.mk7 (h.alloc (.cells #[.int .i64 base, v] 24))
  obtain ⟨a, cap, rfl, _⟩ := id h
  have BB := Hid.mk7 (below_newE (RowKit.Below.refl w.heap.size w) (.cells #[.int .i64 base, .slice a es.length cap] 24))
  have RDH := Hid.mk7 (Rd.new w (.int .i64 base) (.slice a es.length cap))
  have HIS := Hid.mk7 (is_any base HV.out hsm tb (hT.later BB.out))
  rw [hi] at HIS
  clear h hT
  have r0 := RDH.out.c0
  have r1 := RDH.out.c1
  go_enter Tryd.func21, Tryd.ntmps21
  go_wp2_with fail
  refine HIS.out.mono ?_
  rintro e w1 ⟨rfl, b1⟩
  go_wp2
  go_ret2
  exact ⟨rfl, BB.out.trans (b1.mono BB.out.size)⟩
set_option maxHeartbeats 2000000 in
set_option maxRecDepth 100000 in
theorem apply_len {w : World} {v : Value} {es : List El} (base : Int) (s : ByteArray) (h : ElAt w v es) (hsm : Sm es 281474976710656) (tb : Nat × Nat) (hT : Tab w tb) (hi : isB base es = true) (hne : (s.size : Int) ≠ base) :
    Calls Tryd.prog 21 #[.agg #[.int .i64 base, v], .string s] w fun e w' => e = .returned (.tuple #[.string ⟨#[]⟩, .int .i64 80]) ∧ RowKit.Below w.heap.size w w' := by
  have HV := Hid.mk7 (h.alloc (.cells #[.int .i64 base, v] 24))
  obtain ⟨a, cap, rfl, _⟩ := id h
  have BB := Hid.mk7 (below_newE (RowKit.Below.refl w.heap.size w) (.cells #[.int .i64 base, .slice a es.length cap] 24))
  have RDH := Hid.mk7 (Rd.new w (.int .i64 base) (.slice a es.length cap))
  have HIS := Hid.mk7 (is_any base HV.out hsm tb (hT.later BB.out))
  rw [hi] at HIS
  clear h hT
  have r0 := RDH.out.c0
  have r1 := RDH.out.c1
  have d0 : (((s.size : Nat) : Int) != base) = true := by simpa using hne
  clear hne
  go_enter Tryd.func21, Tryd.ntmps21
  go_wp2_with fail
  refine HIS.out.mono ?_
  rintro e w1 ⟨rfl, b1⟩
  have RD1 := RDH.out.later b1
  have q0 := RD1.c0
  have q1 := RD1.c1
  go_wp2
  go_ret2
  exact ⟨rfl, BB.out.trans (b1.mono BB.out.size)⟩
/-- What the loop hands on. -/
structure Tap (s : List UInt8) (es : List El) (w : World) (g N : Nat) (wr : World) (k : Nat) (done : List UInt8) (rest : List Value) : Prop where
  row : wr.heap[g]? = some (.cells (byteCells done ++ rest).toArray 5 (0, 0))
  eq : done = ape s (es.take k)
  len : done.length + rest.length = N
  be : RowKit.Below w.heap.size w wr
set_option maxHeartbeats 8000000 in
set_option maxRecDepth 100000 in
theorem apply_ok {w : World} {v : Value} {es : List El} (s : ByteArray) (h : ElAt w v es) (hsm : Sm es 281474976710656) (tb : Nat × Nat) (hT : Tab w tb) (hi : isB (s.size : Nat) es = true) :
    Calls Tryd.prog 21 #[.agg #[.int .i64 (s.size : Nat), v], .string s] w fun e w' => e = .returned (.tuple #[.string (cacc (apl (cel es) s.data.toList)), .int .i64 0]) ∧ RowKit.Below w.heap.size w w' := by
  obtain ⟨i0, hi0, hz0, hz1, hz2⟩ := info_parts Tryd.info_u8
  have hsz1 : (Tryd.prog.info? 5).map (·.size) = some 1 := by rw [hi0]; simp [hz1]
  have HI0 := Hid.mk7 hi0
  have HV := Hid.mk7 (h.alloc (.cells #[.int .i64 (s.size : Nat), v] 24))
  obtain ⟨a, cap, rfl, _⟩ := id h
  have BB := Hid.mk7 (below_newE (RowKit.Below.refl w.heap.size w) (.cells #[.int .i64 (s.size : Nat), .slice a es.length cap] 24))
  have RDH := Hid.mk7 (Rd.new w (.int .i64 (s.size : Nat)) (.slice a es.length cap))
  have HIS := Hid.mk7 (is_any (s.size : Nat) HV.out hsm tb (hT.later BB.out))
  rw [hi] at HIS
  have hd := dl_of hi
  have hlen := hd.len
  have hsn : s.size ≤ 20000 := by have := hd.b1; omega
  have HIN := Hid.mk7 (nm_inn (n := s.data.toList.length) (by rw [bytes_length]; exact Int.le_refl _) es 0 0 (Int.le_refl _) hd.nm)
  have HAP := Hid.mk7 (ape_apl (s := s.data.toList) (by rw [bytes_length]; exact Int.le_refl _) es hd.nm)
  have hal := ape_len es HIN.out
  have hcp := hd.cp0
  have hszz := hd.sz
  obtain ⟨N, HN⟩ : ∃ N : Nat, Hid ((ape s.data.toList es).length = N) := ⟨_, rfl⟩
  rw [HN.out] at hal
  have hN : N ≤ 20000 := by omega
  have HBD := Hid.mk7 hd.bd
  have HKI := Hid.mk7 (nm_kind es 0 0 hd.nm)
  have HSM := Hid.mk7 hsm
  clear h hT hi hd hsm hi0
  have r0 := RDH.out.c0
  have r1 := RDH.out.c1
  have d0 : (((s.size : Nat) : Int) != ((s.size : Nat) : Int)) = false := by simp
  go_enter Tryd.func21, Tryd.ntmps21
  go_wp2_with fail
  refine HIS.out.mono ?_
  rintro e w1 ⟨rfl, b1⟩
  have RD1 := RDH.out.later b1
  have HV1 := Hid.mk7 (HV.out.later b1)
  have HB1 := Hid.mk7 (BB.out.trans (b1.mono BB.out.size))
  have q0 := RD1.c0
  have q1 := RD1.c1
  have HRD1 := Hid.mk7 RD1
  clear r0 r1 HIS HV BB RDH b1 RD1
  have HCC := Hid.mk7 (fun W (hW : RowKit.Below w1.heap.size w1 W) => copied_any (HV1.out.later hW) HBD.out (by omega))
  have HCI := Hid.mk7 (fun W (hW : RowKit.Below w1.heap.size w1 W) => inserted_any (HV1.out.later hW) HSM.out (by omega))
  obtain ⟨cp, HE⟩ : ∃ x, Hid (cpS es = x) := ⟨_, rfl⟩
  obtain ⟨im, HF⟩ : ∃ x, Hid (inS es = x) := ⟨_, rfl⟩
  rw [HE.out] at HCC hcp hszz hal
  rw [HF.out] at HCI hszz hal
  go_upto_region 5 with fail
  go_cut [6] from 18 to 25 (fun s6 wx => ∃ g rest, s6 = .slice (some ⟨g, 0, none⟩) N N ∧ w1.heap.size ≤ g ∧ Hid (wx.heap[g]? = some (.cells (List.toArray rest) 5 (0, 0))) ∧ rest.length = N ∧ Hid (RowKit.Below w1.heap.size w1 wx))
  case first =>
    have z1 := cell_regrown q1
    refine wp_region_mix [([0, 1, 3, 4], [2]), ([], [5]), ([6], [7]), ([8], [])] (by kernel_rfl) (by kernel_rfl) ?_
    rintro w3 ⟨d, rfl⟩
    have bd := below_redrawnE w1 d
    refine wpPlan_cons ?_
    simp only [pickAll, pickAt, List.nil_append, List.cons_append, List.append_nil]
    clear q0 q1
    repeat (go_big_quiet_step (fail))
    refine wpQuiet_nil ?_
    clear z1
    generalize redrawn w1 d = w3 at *
    go_wp2_with fail
    refine (HCC.out _ bd).mono ?_
    rintro e w4 ⟨rfl, b4⟩
    have g4 := bd.trans (b4.mono bd.size)
    clear b4 bd HCC
    go_wp2
    refine mixNext_belowE g4 ?_
    refine wpPlan_cons ?_
    simp only [pickAll, pickAt, List.nil_append, List.cons_append, List.append_nil]
    refine wpQuiet_nil ?_
    go_wp2_with fail
    refine (HCI.out _ g4).mono ?_
    rintro e w5 ⟨rfl, b5⟩
    have g5 := g4.trans (b5.mono g4.size)
    clear b5 g4 HCI
    go_wp2
    refine mixNext_belowE g5 ?_
    refine wpPlan_cons ?_
    simp only [pickAll, pickAt, List.nil_append, List.cons_append, List.append_nil]
    repeat (go_big_quiet_step (fail))
    refine wpQuiet_nil ?_
    have hi0 := HI0.out
    refine wpList_make_full _ rfl _ _ 62 rfl w1.heap.size 5 i0 (.int .u8 0) 1 Tryd.underlying62 hi0 hz0 hz1 .i64 .i64 _ _ N rfl rfl (by omega) (by omega) (by rw [hz2]; omega) (by unfold maxLen; omega) g5.size ?_
    intro w6 hown hgrow
    have hrow5 : ∃ rest : List Value, w6.heap[w5.heap.size]? = some (.cells rest.toArray 5 (0, 0)) ∧ rest.length = N := by
      rcases hown.2 with ⟨h1, _⟩ | ⟨g, cap, cur, h1, _, h3, _, _, h5, _⟩
      · cases h1
      · cases h1
        exact ⟨cur.toList, by simpa using h3, by simpa using h5⟩
    obtain ⟨rest0, hr5, hl5⟩ := hrow5
    have g6 : RowKit.Below w1.heap.size w1 w6 := g5.grown hgrow g5.size (fun j hj => by cases hj)
    have HR5 := Hid.mk7 hr5
    have hg5 := g5.size
    clear hown hgrow hr5
    go_wp2
    refine mixNext_belowE g6 ?_
    refine wpPlan_cons ?_
    simp only [pickAll, pickAt, List.nil_append, List.cons_append, List.append_nil]
    repeat (go_big_quiet_step (fail))
    refine wpQuiet_nil ?_
    refine mixNext_belowE g6 (wpPlan_nil ?_)
    go_wp2
    go_meet
    exact ⟨w5.heap.size, rest0, rfl, hg5, HR5, hl5, g6⟩
  case rest =>
    obtain ⟨g, rest0, rfl, hg, HR2, hrl, HB2⟩ := hcut
    clear q0 q1 HCC HCI hal hcp hszz
    have HT0 : Hid (Tap s.data.toList es w1 g N wc 0 [] rest0) := ⟨by simpa [byteCells] using HR2.out, rfl, by simpa using hrl, HB2.out⟩
    have HRD2 := Hid.mk7 (HRD1.out.later HB2.out)
    have q1 := HRD2.out.c1
    clear HR2 HB2
    go_wp2
    go_loopw [7, 29] (fun tv iv wr => ∃ (k : Nat) (done : List UInt8) (rest : List Value), k ≤ es.length ∧ iv = .int .i64 (k : Nat) ∧ tv = .int .i64 (done.length : Nat) ∧ Hid (Tap s.data.toList es w1 g N wr k done rest)) (fun _ iv _ => es.length - (intOf iv).toNat)
    case atStart => exact ⟨0, [], rest0, Nat.zero_le _, rfl, rfl, HT0⟩
    case round =>
      obtain ⟨k, done, rest, hk, rfl, rfl, HT⟩ := hrel
      clear HT0 q1 HRD2 hrl
      by_cases hlt : k < es.length
      · obtain ⟨⟨f0, t0, T⟩, hr⟩ : ∃ r, es[k]? = some r := ⟨es[k], List.getElem?_eq_getElem hlt⟩
        have hin := HIN.out _ (List.mem_of_getElem? hr)
        simp only [bytes_length] at hin
        obtain ⟨f, rfl⟩ : ∃ n : Nat, f0 = (n : Int) := ⟨f0.toNat, by omega⟩
        obtain ⟨t, rfl⟩ : ∃ n : Nat, t0 = (n : Int) := ⟨t0.toNat, by omega⟩
        obtain ⟨_, _, hve, _, _, hcells⟩ := HV1.out
        cases hve
        obtain ⟨g1, off, rfl, p0, p1, p2⟩ := hcells k _ hr
        have hb := HT.out.be
        have c0 := cell_later7 hb (Nat.le_refl _) p0
        have c1 := cell_later7 hb (Nat.le_refl _) p1
        have c2 := cell_later7 hb (Nat.le_refl _) p2
        simp only at c0 c1 c2
        have gl : g1 < wr.heap.size := World.block_lt_of_cell? wr ⟨g1, _, none⟩ c0
        have hgw : g < wr.heap.size := (Array.getElem?_eq_some_iff.1 HT.out.row).1
        -- how much is left
        have hsplit : ape s.data.toList es = ape s.data.toList (es.take k) ++ (ap1 s.data.toList ((f : Int), (t : Int), T) ++ ape s.data.toList (es.drop (k + 1))) := by
          conv => lhs; rw [← List.take_append_drop k es, drop_consE hr]
          rw [ape_append]; rfl
        have hroom : done.length + ((t - f) + T.length) ≤ N := by
          have h1 := congrArg List.length hsplit
          have h2 := ap1_len (s := s.data.toList) (e := ((f : Int), (t : Int), T)) (by rw [bytes_length]; exact hin)
          simp only at h2
          rw [HN.out, List.length_append, List.length_append, ← HT.out.eq] at h1
          omega
        have HDN : Hid (ape s.data.toList (es.take (k + 1)) = done ++ ((s.extract f t).data.toList ++ T)) := by
          show _ = _
          rw [take_snoc7 hr, ape_append, ← HT.out.eq, bytes_ext]
          congr 1
          show ap1 _ _ ++ [] = _
          rw [List.append_nil]
          unfold ap1
          simp only [Int.toNat_natCast]
          rw [show ((t : Int) - (f : Int)).toNat = t - f by omega]
        have hlr := HT.out.len
        have HTA : Hid (Tap s.data.toList es w1 g N (wr.alloc (.cells #[.int .i64 (f : Nat), .int .i64 (t : Nat), .string (cacc T)] 51)) k done rest) := ⟨(Below.heap_alloc _ _ _ hgw).trans HT.out.row, HT.out.eq, HT.out.len, below_newE HT.out.be _⟩
        have HR := Hid.mk7 hr
        clear hr p0 p1 p2 hcells HT hb hsplit
        have RE := Re.new wr (.int .i64 (f : Nat)) (.int .i64 (t : Nat)) (.string (cacc T))
        have hsT : (cacc T).size = T.length := cacc_size T
        have HCT : Hid ((cacc T).data.toList = T) := rfl
        generalize cacc T = u at *
        have e0 := RE.c0
        have e1 := RE.c1
        have e2 := RE.c2
        have HE2 := Hid.mk7 e2
        have hbg : wr.heap.size ≠ g := by omega
        have hbl : wr.heap.size < (wr.alloc (.cells #[.int .i64 (f : Nat), .int .i64 (t : Nat), .string u] 51)).heap.size := by simp
        clear RE
        go_wp2_with fail
        clear c0 c1 c2
        have hkind := HKI.out _ (List.mem_of_getElem? HR.out)
        simp only at hkind
        have hx0 : (byteCells done ++ rest).length = N := by rw [List.length_append, byteCells_length]; omega
        have HX0 := Hid.mk7 hx0
        have HROW := Hid.mk7 HTA.out.row
        have hwe : wr.heap.size < (wr.alloc (.cells #[.int .i64 (f : Nat), .int .i64 (t : Nat), .string u] 51)).heap.size := hbl
        generalize wr.alloc (.cells #[.int .i64 (f : Nat), .int .i64 (t : Nat), .string u] 51) = W at *
        generalize hcur : byteCells done ++ rest = cur at *
        clear hx0 hwe
        obtain ⟨x, hx⟩ : ∃ x : ByteArray, s.extract f t = x := ⟨_, rfl⟩
        have hxs : x.size = t - f := by rw [← hx, ByteArray.size_extract]; omega
        have HXX := Hid.mk7 hx
        rw [hx] at HDN
        have f1 : done.length ≤ N := by omega
        have f4 : ((t : Int) ≤ (s.size : Int)) = True := by simp; omega
        have f5 : ((f : Int) ≤ (t : Int)) = True := by simp; omega
        have f2 : ¬ (N = done.length) := by
          rcases hkind with ⟨h1, h2⟩ | ⟨h1, h2, h3⟩
          · omega
          · have : T.length ≠ 0 := fun e => h1 (List.eq_nil_of_length_eq_zero e)
            omega
        have f3 : IntKind.i64.wrap ((done.length : Int) + (x.size : Int)) = (done.length : Int) + (x.size : Int) := IntWalk.i64_in _ (by omega)
        have hx1 : f + x.size ≤ t := by omega
        have hx2 : t ≤ f + x.size := by omega
        clear hxs
        go_cut [7] from 33 to 44 (fun s7 wx => ∃ D : Nat, s7 = .int .i64 (D : Nat) ∧ Hid (D = done.length + x.size) ∧ Hid (wx.heap[g]? = some (.cells (byteCells (done ++ x.data.toList) ++ rest.drop x.size).toArray 5 (0, 0))) ∧ Hid (RowKit.Below w1.heap.size w1 wx) ∧ Hid (wx.cell? ⟨wr.heap.size, 2, none⟩ = some (.string u)))
        case first =>
          go_region_law (refine step_copy_str rfl (.tmp 36) (.tmp 42) 62 9 rfl 5 Tryd.underlying62 hsz1 g done.length (N - done.length) (N - done.length) x (by simp [Act.eval, Act.put]) (by simp [Act.eval, Act.put, hx]) cur 5 HROW.out (by omega) (by rw [HX0.out]; omega) ?_; intro W2 hg2 hgr2)
          all_goals
            have e3 := Hid.mk7 (hgr2.cell HE2.out (fun h => hbg (Option.some.inj h)))
            have be2 : Hid (RowKit.Below w1.heap.size w1 W2) := HTA.out.be.drew.grown hgr2 HTA.out.be.size (fun j hj => by cases hj; exact hg)
            have hrow2 : Hid (W2.heap[g]? = some (.cells (byteCells (done ++ x.data.toList) ++ rest.drop x.size).toArray 5 (0, 0))) := by
              have := hg2.out
              rw [← hcur, splice_row, bytes_length] at this
              exact this
            clear hg2 hgr2
            go_wp2
            go_meet
            exact ⟨done.length + x.size, by go_num, rfl, hrow2, be2, e3⟩
        case rest =>
        obtain ⟨D, rfl, HDD, HROW2, HB2, HE3⟩ := hcut
        have e3 := HE3.out
        have hdl2 : (done ++ x.data.toList).length = D := by rw [List.length_append, bytes_length, HDD.out]
        have HDL2 := Hid.mk7 hdl2
        have hD := HDD.out
        have hcl : (byteCells (done ++ x.data.toList) ++ rest.drop x.size).length = N := by rw [List.length_append, byteCells_length, hdl2, List.length_drop]; omega
        have HCL := Hid.mk7 hcl
        have hDN : D + T.length ≤ N := by omega
        have HLR : Hid (rest.length - x.size = N - D) := by show _ = _; omega
        have HQ := Hid.mk7 HTA.out.eq
        have f1' : D ≤ N := by omega
        clear HTA HROW e0 e1 e2 HE2 hx f3 f4 f5 hdl2 hcl hkind f2 f1 hD hx1 hx2 HE3 hcur
        have f1 := f1'
        clear f1'
        generalize hcur2 : byteCells (done ++ x.data.toList) ++ rest.drop x.size = cur2 at *
        by_cases f2 : N = D
        · have hu0 : u.size = 0 := by omega
          have HF2 := Hid.mk7 f2
          have f2' : (N = D) = True := by simp [f2]
          have f8 : N ≤ D := by omega
          clear f2
          have f3 : IntKind.i64.wrap ((D : Int) + (u.size : Int)) = (D : Int) + (u.size : Int) := IntWalk.i64_in _ (by omega)
          have HRX := Hid.mk7 (show wc.heap[g]? = some (.cells cur2.toArray 5 (0, 0)) from HROW2.out)
          go_wp2_with fail
          go_region_law (refine step_copy_str rfl (.tmp 48) (.tmp 50) 62 9 rfl 5 Tryd.underlying62 hsz1 g 0 0 0 u (by simp [Act.eval, Act.put]) (by simp [Act.eval, Act.put]) cur2 5 HRX.out (by omega) (by rw [HCL.out]; omega) ?_; intro W3 hg3 hgr3)
          have be3 : RowKit.Below w1.heap.size w1 W3 := HB2.out.drew.grown hgr3 HB2.out.size (fun j hj => by cases hj; exact hg)
          have hrow3 : W3.heap[g]? = some (.cells (byteCells (done ++ (x.data.toList ++ T)) ++ rest.drop (x.size + u.size)).toArray 5 (0, 0)) := by
            have := hg3.out
            have hT0 : T = [] := List.eq_nil_of_length_eq_zero (by omega)
            have hb0 : byteCells u.data.toList = [] := by rw [HCT.out, hT0]; rfl
            rw [hb0] at this
            have e : splice cur2 0 [] = cur2 := by simp [splice]
            rw [e, ← hcur2] at this
            rw [hT0, List.append_nil, hu0, Nat.add_zero]
            exact this
          have HT3 : Hid (Tap s.data.toList es w1 g N W3 (k + 1) (done ++ (x.data.toList ++ T)) (rest.drop (x.size + u.size))) := ⟨hrow3, HDN.out.symm, by
            have h1 := HDL2.out
            have h2 := HLR.out
            rw [List.length_append] at h1
            rw [List.length_append, List.length_append, List.length_drop]
            omega, be3⟩
          have HL3 : Hid ((done ++ (x.data.toList ++ T)).length = D + u.size) := by
            show _ = _
            have h1 := HDL2.out
            rw [List.length_append] at h1
            rw [List.length_append, List.length_append]
            omega
          clear hg3 hgr3 be3 hrow3 HRX f3 HROW2 HCL e3
          go_wp2
          go_roundw
          case rel => exact ⟨k + 1, _, _, by omega, by go_num, by rw [HL3.out]; go_num, HT3⟩
          case measure => simp [intOf]; omega
        · have f7 : u.size ≤ N - D := by omega
          have f3 : IntKind.i64.wrap ((D : Int) + (u.size : Int)) = (D : Int) + (u.size : Int) := IntWalk.i64_in _ (by omega)
          have HRX := Hid.mk7 (show wc.heap[g]? = some (.cells cur2.toArray 5 (0, 0)) from HROW2.out)
          go_wp2_with fail
          go_region_law (refine step_copy_str rfl (.tmp 48) (.tmp 50) 62 9 rfl 5 Tryd.underlying62 hsz1 g D (N - D) (N - D) u (by simp [Act.eval, Act.put]) (by simp [Act.eval, Act.put]) cur2 5 HRX.out (by omega) (by rw [HCL.out]; omega) ?_; intro W3 hg3 hgr3)
          have be3 : RowKit.Below w1.heap.size w1 W3 := HB2.out.drew.grown hgr3 HB2.out.size (fun j hj => by cases hj; exact hg)
          have hrow3 : W3.heap[g]? = some (.cells (byteCells (done ++ (x.data.toList ++ T)) ++ rest.drop (x.size + u.size)).toArray 5 (0, 0)) := by
            have := hg3.out
            rw [← hcur2, ← HDL2.out, splice_row, List.drop_drop, HCT.out, ← hsT] at this
            rw [← List.append_assoc]
            exact this
          have HT3 : Hid (Tap s.data.toList es w1 g N W3 (k + 1) (done ++ (x.data.toList ++ T)) (rest.drop (x.size + u.size))) := ⟨hrow3, HDN.out.symm, by
            have h1 := HDL2.out
            have h2 := HLR.out
            rw [List.length_append] at h1
            rw [List.length_append, List.length_append, List.length_drop]
            omega, be3⟩
          have HL3 : Hid ((done ++ (x.data.toList ++ T)).length = D + u.size) := by
            show _ = _
            have h1 := HDL2.out
            rw [List.length_append] at h1
            rw [List.length_append, List.length_append]
            omega
          clear hg3 hgr3 be3 hrow3 HRX f3 HROW2 HCL e3
          go_wp2
          go_roundw
          case rel => exact ⟨k + 1, _, _, by omega, by go_num, by rw [HL3.out]; go_num, HT3⟩
          case measure => simp [intOf]; omega
      · obtain rfl : k = es.length := by omega
        have hde : apl (cel es) s.data.toList = done := by
          have := HT.out.eq
          rw [List.take_length] at this
          rw [← HAP.out, this]
        have hdn : done.length = N := by rw [HT.out.eq, List.take_length]; exact HN.out
        have hrest : rest = [] := List.eq_nil_of_length_eq_zero (by have := HT.out.len; omega)
        subst hrest
        have HDE := Hid.mk7 hde
        have hrow := HT.out.row
        rw [List.append_nil] at hrow
        have be := HT.out.be
        have hcv : ∀ W : World, W = wr → (convert 62 9 (.slice (some ⟨g, 0, none⟩) N N)).run Tryd.prog W = .ok (.string ⟨done.toArray⟩) W := fun W e => by
          subst e
          have := run_convert_bytes_back (P := Tryd.prog) W 62 9 5 ⟨g, 0, none⟩ N done Tryd.underlying62 Tryd.underlying5 Tryd.underlying9 (fun j hj => by
            rw [addr_add7]
            simp [World.cell?, hrow, byteCells, hj])
          rw [hdn] at this
          exact this
        have hcv2 := hcv wr rfl
        clear HT hrow hcv hde
        go_wp2
        go_ret2
        exact ⟨by rw [HDE.out]; rfl, HB1.out.trans (be.mono HB1.out.size)⟩
end Go.Proofs.YtelpinngimohoaaDoor
