/- FactorJoins walked. -/
import Derived.Test.YtalolaajcmndeaaDoorFacTells
import Derived.Test.YtalolaajcmndeaaDoorFacRJoin
namespace Go.Proofs.YtalolaajcmndeaaDoor
open Go.RowKit Go.Sort Go.Lib
set_option linter.unusedSimpArgs false
set_option linter.unusedVariables false

/-- Bytes that came in. -/
def RowU (w : World) (v : Value) (zs : List Int) : Prop :=
  ∃ ad cap, v = .slice ad zs.length cap ∧ (zs ≠ [] → ∃ blk off, ad = some ⟨blk, off, none⟩ ∧ ∀ i, i < zs.length → w.cell? ⟨blk, off + i, none⟩ = some (.int .u8 (zs.getD i 0)))
/-- How often a place is in the row that the law makes of a byte. -/
def lcF (z : Int) : Int := z % 3 * (z / 3 % 2)
theorem lcF_bd {z : Int} (h0 : 0 ≤ z) : 0 ≤ lcF z ∧ lcF z ≤ 2 := by
  unfold lcF
  have h1 : 0 ≤ z % 3 ∧ z % 3 ≤ 2 := by omega
  rcases (show z / 3 % 2 = 0 ∨ z / 3 % 2 = 1 by omega) with h | h <;> rw [h] <;> omega
theorem lcF_ok8 {zs : List Int} (hl : zs.length ≤ 400) (h : ∀ z ∈ zs, 0 ≤ z ∧ z ≤ 255) : Ok8 (zs.map lcF) := by
  refine ⟨by simp; omega, fun c hc => ?_⟩
  obtain ⟨z, hz, rfl⟩ := List.mem_map.1 hc
  have := lcF_bd (h z hz).1
  omega
theorem all_kept {N : Int} {es : List El} (hi : isB N es = true) : (kpb (gon N 0 es)).all id = decide (cpS es = N) := by
  obtain ⟨h1, h2, _, _⟩ := isB_spec.1 hi
  have g2 := gon_szc es 0 0 h1.1 h2
  have key : ∀ F : List Int, (∀ c ∈ F, c = 0 ∨ c = 1) → ((kpb F).all id = true ↔ szc F = 0) := by
    intro F
    induction F with
    | nil => intro _; simp [kpb, szc]
    | cons c F ih =>
      intro hF
      have ih' := ih fun x hx => hF x (by simp [hx])
      rcases hF c (by simp) with rfl | rfl
      · have e : szc (0 :: F) = szc F := by simp [szc]
        rw [e, ← ih']
        simp [kpb]
      · have e : szc (1 :: F) = szc F + 1 := by simp [szc]
        rw [e]
        simp [kpb]
  have hk := key (gon N 0 es) fun c hc => gon_mem hc
  by_cases hc : cpS es = N
  · rw [decide_eq_true hc]
    exact hk.2 (by omega)
  · rw [decide_eq_false hc]
    cases hb : (kpb (gon N 0 es)).all id with
    | false => rfl
    | true => exact absurd (hk.1 hb) (by omega)
theorem cel_lt {N : Int} {es : List El} (hi : isB N es = true) {L : List Int} (hL : (L.length : Int) = N) : ∀ c ∈ cel es, c.1 < 0 ∨ (0 ≤ c.1 ∧ c.1 < L.length) := by
  obtain ⟨h1, h2, _, _⟩ := isB_spec.1 hi
  have key : ∀ (es : List El) (last : Int) (k : Nat), 0 ≤ last → Nm N last k es → ∀ c ∈ cel es, c.1 < 0 ∨ (0 ≤ c.1 ∧ c.1 < L.length) := by
    intro es
    induction es with
    | nil => intro _ _ _ _ c hc; simp [cel] at hc
    | cons e es ih =>
      obtain ⟨f, t, T⟩ := e
      intro last k h0 h c hc
      rw [cel_cons, show ce1 (f, t, T) = ownT T ++ rng f t from rfl] at hc
      by_cases hT : T = []
      · subst hT
        rw [Nm, if_pos rfl] at h
        rcases List.mem_append.1 hc with hc | hc
        · rcases List.mem_append.1 hc with hc | hc
          · simp [ownT] at hc
          · have := rng_mem hc
            exact Or.inr ⟨by omega, by omega⟩
        · exact ih t 2 (by omega) h.2.2.2.2 c hc
      · rw [Nm, if_neg hT] at h
        rcases List.mem_append.1 hc with hc | hc
        · rcases List.mem_append.1 hc with hc | hc
          · simp only [ownT, List.mem_map] at hc
            obtain ⟨b, _, rfl⟩ := hc
            exact Or.inl (by simp only; omega)
          · rw [h.1, h.2.1, rng_none (Int.le_refl _)] at hc
            simp at hc
        · exact ih last 1 h0 h.2.2.2 c hc
  exact key es 0 0 (Int.le_refl _) h2
theorem cel_40 {N : Int} {es : List El} (hd : Dl N es) : (cel es).length ≤ 40000 := by
  have h1 := cel_size es 0 0 hd.nm
  have h2 := hd.sz
  rw [szE_two] at h1
  omega
theorem cells_row {w : World} {v : Value} {es : List El} {N : Int} (h : ElAt w v es) (hd : Dl N es) :
    Calls Tryd.prog 14 #[.agg #[.int .i64 N, v]] w fun e w' => ∃ v', e = .returned v' ∧ KAt w' v' (cel es) ∧ RowKit.Below w.heap.size w w' := by
  refine (rcells_any N h hd).mono ?_
  rintro e w' ⟨v', rfl, o, b⟩
  exact ⟨v', rfl, o.row, b⟩
/-- What the document's Told makes of both halves. -/
theorem told_bld {N b1 er : Int} {es ys : List El} {L : List Int} (hi : isB N es = true) (hcp : cpS es = N) (hL : Ok8 L) (hlen : (L.length : Int) = N) (hy : tld (fil L (cel es)) = ys) (hr : (ys.length ≤ 60 ∧ b1 = N ∧ er = 0) ∨ (60 < ys.length ∧ b1 = 0 ∧ er = 70)) :
    ∃ zs, (ys.length ≤ 60 → zs = ys) ∧ ∀ W v, KAt W v (fil L (cel es)) → Calls Tryd.prog 16 #[.int .i64 N, v] W fun e w' => ∃ v', e = .returned (.tuple #[.agg #[.int .i64 b1, v'], .int .i64 er]) ∧ ElAt w' v' zs ∧ RowKit.Below W.heap.size W w' := by
  obtain ⟨l, hc⟩ := chd_ex hi hcp hL hlen
  have hw : Cw (fil L (cel es)) := by rw [← hc.ce]; exact cw_bce hc.fl
  rcases hr with ⟨hm, rfl, rfl⟩ | ⟨hm, rfl, rfl⟩
  · refine ⟨ys, fun _ => rfl, fun W v h => (rtold_any _ h hw).mono ?_⟩
    rintro e w' ⟨ht, b⟩
    rw [hy] at ht
    obtain ⟨v', rfl, h8⟩ := toldR_ok ht hm
    exact ⟨v', rfl, h8, b⟩
  · refine ⟨[], fun h => by omega, fun W v h => (rtold_any _ h hw).mono ?_⟩
    rintro e w' ⟨ht, b⟩
    rw [hy] at ht
    obtain rfl := toldR_many ht hm
    exact ⟨_, rfl, ElAt.nil _, b⟩
set_option maxHeartbeats 4000000 in
set_option maxRecDepth 100000 in
theorem joins12_any (n : Int) {v u : Value} {es : List El} {zs : List Int} (hl : es.length ≤ maxLen) (hsm : Sm es maxLen) (hzl : zs.length ≤ maxLen) (hzb : ∀ i, i < zs.length → 0 ≤ zs.getD i 0 ∧ zs.getD i 0 ≤ 255) (w : World) (tb : Nat × Nat) (hT : Tab w tb) (h : ElAt w v es) (hz : RowU w u zs) :
    Calls Tryd.prog 4 #[.agg #[.int .i64 n, v], u] w fun e w' => e = .returned (.bool true) ∧ RowKit.Below w.heap.size w w' := by
  obtain ⟨va, vcap, rfl, _, _, _⟩ := id h
  obtain ⟨za, zcap, rfl, hzc⟩ := hz
  have B0 := below_newE (RowKit.Below.refl w.heap.size w) (.cells #[.int .i64 n, .slice va es.length vcap] 24)
  have HZ : Hid (∀ i z, zs[i]? = some z → ∃ g off, za = some ⟨g, off, none⟩ ∧ (w.alloc (.cells #[.int .i64 n, .slice va es.length vcap] 24)).cell? ⟨g, off + i, none⟩ = some (.int .u8 z) ∧ 0 ≤ z ∧ z ≤ 255) := by
    intro i z hi
    have hil := (List.getElem?_eq_some_iff.1 hi).1
    obtain ⟨g, off, e, hc⟩ := hzc (fun e => by rw [e] at hil; simp at hil)
    have hgd : zs.getD i 0 = z := by rw [List.getD_eq_getElem?_getD, hi]; rfl
    have hb := hzb i hil
    have hc' := hc i hil
    rw [hgd] at hb hc'
    exact ⟨g, off, e, cell_later7 B0 (Nat.le_refl _) hc', hb⟩
  have HZM : Hid (∀ z ∈ zs, 0 ≤ z ∧ z ≤ 255) := by
    intro z hzm
    obtain ⟨i, hi⟩ := List.getElem?_of_mem hzm
    obtain ⟨_, _, _, _, h5⟩ := HZ.out i z hi
    exact h5
  have HK := Hid.mk7 (known12_any _ tb (hT.later B0))
  have HFW := Hid.mk7 (fun W (hE : ElAt W (.slice va es.length vcap) es) => fewD12_any n hE hl)
  have E0 := Hid.mk7 (h.later B0)
  have RD0 := Hid.mk7 (Rd.new w (.int .i64 n) (.slice va es.length vcap))
  have T0 := Hid.mk7 (hT.later B0)
  have G0 := Hid.mk7 B0
  clear B0 hT h hzc hzb
  by_cases hfew : fewD n es = true
  case neg =>
    have hf' : fewD n es = false := by simpa using hfew
    rw [hf'] at HFW
    clear hf' hfew
    go_enter Tryd.func4, Tryd.ntmps4
    have RDc0 := RD0.out.c0
    have RDc1 := RD0.out.c1
    go_wp2_with fail
    refine (HK.out).mono ?_
    rintro e w11 ⟨rfl, bz⟩
    clear RDc0 RDc1
    have E12 := Hid.mk7 (E0.out.later bz)
    have RD12 := Hid.mk7 (RD0.out.later bz)
    have T12 := Hid.mk7 (T0.out.later bz)
    have G12 := Hid.mk7 (G0.out.trans (bz.mono G0.out.size))
    clear E0 RD0 T0 G0 bz
    have RDc0 := RD12.out.c0
    have RDc1 := RD12.out.c1
    go_wp2_with fail
    refine (HFW.out _ E12.out).mono ?_
    rintro e w13 ⟨rfl, bz⟩
    clear RDc0 RDc1
    have E14 := Hid.mk7 (E12.out.later bz)
    have RD14 := Hid.mk7 (RD12.out.later bz)
    have T14 := Hid.mk7 (T12.out.later bz)
    have G14 := Hid.mk7 (G12.out.trans (bz.mono G12.out.size))
    clear E12 RD12 T12 G12 bz
    go_wp2
    go_ret
    exact ⟨rfl, G14.out⟩
  rw [hfew] at HFW
  obtain ⟨hs2, hn4, hl7⟩ := fewD_of hfew
  clear hfew
  by_cases hlong : 400 < zs.length
  · have t1 : decide ((400 : Int) < (zs.length : Int)) = true := decide_eq_true (by omega)
    go_enter Tryd.func4, Tryd.ntmps4
    have RDc0 := RD0.out.c0
    have RDc1 := RD0.out.c1
    go_wp2_with fail
    refine (HK.out).mono ?_
    rintro e w11 ⟨rfl, bz⟩
    clear RDc0 RDc1
    have E12 := Hid.mk7 (E0.out.later bz)
    have RD12 := Hid.mk7 (RD0.out.later bz)
    have T12 := Hid.mk7 (T0.out.later bz)
    have G12 := Hid.mk7 (G0.out.trans (bz.mono G0.out.size))
    clear E0 RD0 T0 G0 bz
    have RDc0 := RD12.out.c0
    have RDc1 := RD12.out.c1
    go_wp2_with fail
    refine (HFW.out _ E12.out).mono ?_
    rintro e w13 ⟨rfl, bz⟩
    clear RDc0 RDc1
    have E14 := Hid.mk7 (E12.out.later bz)
    have RD14 := Hid.mk7 (RD12.out.later bz)
    have T14 := Hid.mk7 (T12.out.later bz)
    have G14 := Hid.mk7 (G12.out.trans (bz.mono G12.out.size))
    clear E12 RD12 T12 G12 bz
    go_wp2
    go_ret
    exact ⟨rfl, G14.out⟩
  have t1 : decide ((400 : Int) < (zs.length : Int)) = false := decide_eq_false (by omega)
  have hz4 : zs.length ≤ 400 := by omega
  have HOK := Hid.mk7 (lcF_ok8 hz4 HZM.out)
  clear hlong
  go_enter Tryd.func4, Tryd.ntmps4
  have RDc0 := RD0.out.c0
  have RDc1 := RD0.out.c1
  go_wp2_with fail
  refine (HK.out).mono ?_
  rintro e w11 ⟨rfl, bz⟩
  clear RDc0 RDc1
  have HZ11 : Hid (∀ i z, zs[i]? = some z → ∃ g off, za = some ⟨g, off, none⟩ ∧ w11.cell? ⟨g, off + i, none⟩ = some (.int .u8 z) ∧ 0 ≤ z ∧ z ≤ 255) := fun i z hi => by
    obtain ⟨g, off, e1, e2, e3⟩ := HZ.out i z hi
    exact ⟨g, off, e1, cell_later7 bz (Nat.le_refl _) e2, e3⟩
  clear HZ
  have E12 := Hid.mk7 (E0.out.later bz)
  have RD12 := Hid.mk7 (RD0.out.later bz)
  have T12 := Hid.mk7 (T0.out.later bz)
  have G12 := Hid.mk7 (G0.out.trans (bz.mono G0.out.size))
  clear E0 RD0 T0 G0 bz
  have RDc0 := RD12.out.c0
  have RDc1 := RD12.out.c1
  go_wp2_with fail
  refine (HFW.out _ E12.out).mono ?_
  rintro e w13 ⟨rfl, bz⟩
  clear RDc0 RDc1
  have HZ13 : Hid (∀ i z, zs[i]? = some z → ∃ g off, za = some ⟨g, off, none⟩ ∧ w13.cell? ⟨g, off + i, none⟩ = some (.int .u8 z) ∧ 0 ≤ z ∧ z ≤ 255) := fun i z hi => by
    obtain ⟨g, off, e1, e2, e3⟩ := HZ11.out i z hi
    exact ⟨g, off, e1, cell_later7 bz (Nat.le_refl _) e2, e3⟩
  clear HZ11
  have E14 := Hid.mk7 (E12.out.later bz)
  have RD14 := Hid.mk7 (RD12.out.later bz)
  have T14 := Hid.mk7 (T12.out.later bz)
  have G14 := Hid.mk7 (G12.out.trans (bz.mono G12.out.size))
  clear E12 RD12 T12 G12 bz
  obtain ⟨i0, hi0, hz0, hz1, hz2⟩ := info_parts Tryd.info_int7
  have HI := Hid.mk7 hi0
  clear hi0
  go_wp2
  go_loopw [5, 6] (fun rv iv wr => ∃ k : Nat, k ≤ zs.length ∧ iv = .int .i64 (k : Nat) ∧ Hid (OwnI wr w13.heap.size rv ((zs.take k).map lcF)) ∧ RowKit.Below w13.heap.size w13 wr) (fun _ iv _ => zs.length - (intOf iv).toNat)
  case atStart => exact ⟨0, Nat.zero_le _, rfl, OwnI.nil _ _, RowKit.Below.refl _ _⟩
  case round =>
    obtain ⟨k, hk, rfl, HO, hb⟩ := hrel
    have hsz := hb.size
    by_cases hlt : k < zs.length
    · obtain ⟨z, hr⟩ : ∃ r, zs[k]? = some r := ⟨zs[k], List.getElem?_eq_getElem hlt⟩
      obtain ⟨g, off, rfl, q0, q1, q2⟩ := HZ13.out k _ hr
      have c0 := cell_later7 hb (Nat.le_refl _) q0
      have hgl : g < w13.heap.size := World.block_lt_of_cell? w13 ⟨g, _, none⟩ q0
      have HTK : Hid ((zs.take (k + 1)).map lcF = (zs.take k).map lcF ++ [lcF z]) := by show _ = _; rw [take_snoc7 hr]; simp
      have htl : ((zs.take k).map lcF).length ≤ 400 := by simp; omega
      obtain ⟨X, HX⟩ : ∃ X, Hid ((zs.take k).map lcF = X) := ⟨_, Hid.mk7 rfl⟩
      rw [HX.out] at HO htl HTK
      have hx0 : 0 ≤ z % 3 * (z / 3 % 2) := (lcF_bd q1).1
      have hx2 : z % 3 * (z / 3 % 2) ≤ 2 := (lcF_bd q1).2
      clear q0 hr
      go_upto_region 9 with fail
      refine wp_region_turns (fun w' => ∃ q : (GW (fun W => W.cell? ⟨g, off + k, none⟩ = some (.int .u8 z))), w' = q.w) [0, 1, 2, 3, 4, 5, 6, 7, 8, 9, 10, 11, 12, 13, 14] 17 3 (by kernel_rfl) (by kernel_rfl) (fun d => ⟨⟨redrawn wr d, c0⟩, rfl⟩) ?_
      intro d
      have k0 : ∀ q : (GW (fun W => W.cell? ⟨g, off + k, none⟩ = some (.int .u8 z))), q.w.cell? ⟨g, off + k, none⟩ = some (.int .u8 z) := fun q => q.h
      simp only [pickAll, pickAt, List.nil_append, List.cons_append, List.append_nil]
      have hne : Nonempty (GW (fun W => W.cell? ⟨g, off + k, none⟩ = some (.int .u8 z))) := ⟨⟨wr, c0⟩⟩
      repeat (go_big_quiet_step (fail))
      refine wpQuiet_nil ?_
      clear hne k0
      have bd := below_redrawnE wr d
      have HO0 := Hid.mk7 (HO.out.later bd)
      have hb0 := hb.trans (bd.mono hsz)
      have hs0 := hb0.size
      have c1 : (redrawn wr d).cell? ⟨g, off + k, none⟩ = some (.int .u8 z) := c0
      clear HO bd c0
      generalize redrawn wr d = x0 at *
      refine anyC_pick1 15 (by kernel_rfl) (by kernel_rfl) ?_
      simp only [pickAll, pickAt, List.nil_append, List.cons_append, List.append_nil]
      go_wp2
      have c2 := cell_later7 (below_newE (RowKit.Below.refl x0.heap.size x0) (.cells #[.int .i64 (z % 3 * (z / 3 % 2))] 3)) (Nat.le_refl _) c1
      refine anyNext_mk ⟨⟨_, c2⟩, rfl⟩ ?_
      refine anyC_pick1 16 (by kernel_rfl) (by kernel_rfl) ?_
      simp only [pickAll, pickAt, List.nil_append, List.cons_append, List.append_nil]
      go_wp2_with (at_builtin; refine wpList_append_own _ rfl _ _ 35 rfl w13.heap.size 3 i0 (.int .i64 0) 1 8 Tryd.underlying35 HI.out hz0 hz1 hz2 rfl (by decide) _ _ _ rfl (World.ownsRow.alloc HO0.out _) ⟨_, 0, none⟩ 1 1 [.int .i64 (z % 3 * (z / 3 % 2))] rfl rfl (cell_oneF _ _ _) (fun u hu => by simp at hu; subst hu; rfl) (by unfold maxLen; omega) (by omega) (by simp; omega) ?_)
      intro v' w3 hown hgrow _
      have HO3 := Hid.mk7 (ownI_pushF (c := z % 3 * (z / 3 % 2)) rfl hown)
      have HTK2 : Hid ((zs.take (k + 1)).map lcF = X ++ [z % 3 * (z / 3 % 2)]) := HTK.out
      rw [← HTK2.out] at HO3
      have hb3 := (hb0.alloc hs0 (.cells #[.int .i64 (z % 3 * (z / 3 % 2))] 3)).grown hgrow (by simp; omega) (fun j hj => (World.ownsRow.lt HO0.out j hj).1)
      have c3 : w3.cell? ⟨g, off + k, none⟩ = some (.int .u8 z) := by
        rw [← c2]
        unfold World.cell?
        rw [hgrow.block g (by simp; omega) (fun e => by have := (World.ownsRow.lt HO0.out g e.symm).1; omega)]
      clear hown hgrow HO0 hb c1 c2
      go_wp2
      refine anyNext_mk ⟨⟨_, c3⟩, rfl⟩ ?_
      refine anyC_pick1 17 (by kernel_rfl) (by kernel_rfl) ?_
      simp only [pickAll, pickAt, List.nil_append, List.cons_append, List.append_nil]
      go_wp2
      refine anyNext_last (anyC_done (by kernel_rfl) ?_)
      go_wp2
      go_roundw
      case rel => exact ⟨k + 1, by omega, by go_num, HO3, hb3⟩
      case measure => simp [intOf]; omega
    · obtain rfl : k = zs.length := by omega
      have HLN : Hid (NumAt .i64 wr u5 (zs.map lcF)) := by have := HO.out.num; rw [List.take_length] at this; exact this
      have HLS : Hid (((zs.map lcF).length : Nat) = zs.length) := by show _ = _; simp
      obtain ⟨L, hL⟩ : ∃ L, zs.map lcF = L := ⟨_, rfl⟩
      rw [hL] at HLN HLS HOK
      obtain ⟨la, lcap, rfl, _, _⟩ := id HLN.out
      clear hL HO
      have hL4 : L.length ≤ 400 := by rw [HLS.out]; exact hz4
      have bz := hb
      clear hb HZ13
      have E15 := Hid.mk7 (E14.out.later bz)
      have RD15 := Hid.mk7 (RD14.out.later bz)
      have T15 := Hid.mk7 (T14.out.later bz)
      have G15 := Hid.mk7 (G14.out.trans (bz.mono G14.out.size))
      clear E14 RD14 T14 G14 bz
      have RDc0 := RD15.out.c0
      have RDc1 := RD15.out.c1
      go_wp2_with fail
      refine (refsegs_any HLN.out (by omega)).mono ?_
      rintro e ws ⟨sv, rfl, hsv, bz⟩
      clear RDc0 RDc1
      have E16 := Hid.mk7 (E15.out.later bz)
      have RD16 := Hid.mk7 (RD15.out.later bz)
      have T16 := Hid.mk7 (T15.out.later bz)
      have G16 := Hid.mk7 (G15.out.trans (bz.mono G15.out.size))
      have L16 := Hid.mk7 (HLN.out.later bz)
      clear E15 RD15 T15 G15 HLN bz
      have SG17 := Hid.mk7 (hsv.row)
      clear hsv
      have RDc0 := RD16.out.c0
      have RDc1 := RD16.out.c1
      go_wp2_with fail
      refine (of_any8 SG17.out HOK.out).mono ?_
      rintro e wo ⟨ho, bz⟩
      clear RDc0 RDc1
      clear SG17
      have E18 := Hid.mk7 (E16.out.later bz)
      have RD18 := Hid.mk7 (RD16.out.later bz)
      have T18 := Hid.mk7 (T16.out.later bz)
      have G18 := Hid.mk7 (G16.out.trans (bz.mono G16.out.size))
      have L18 := Hid.mk7 (L16.out.later bz)
      clear E16 RD16 T16 G16 L16 bz
      rcases ho with ⟨hmr, rfl⟩ | ⟨hmr, pr, rfl, hsub⟩
      · go_wp2
        go_ret
        exact ⟨rfl, G18.out⟩
      have S19 := Hid.mk7 (hsub)
      clear hsub
      by_cases hi : isB n es = true
      case neg =>
        have hi' : isB n es = false := by simpa using hi
        clear hi
        have RDc0 := RD18.out.c0
        have RDc1 := RD18.out.c1
        go_wp2_with fail
        refine (join_no n tb hi' (hs2.mono (by omega)) E18.out T18.out).mono ?_
        rintro e w20 ⟨rfl, bz⟩
        clear RDc0 RDc1
        have E21 := Hid.mk7 (E18.out.later bz)
        have RD21 := Hid.mk7 (RD18.out.later bz)
        have T21 := Hid.mk7 (T18.out.later bz)
        have G21 := Hid.mk7 (G18.out.trans (bz.mono G18.out.size))
        have L21 := Hid.mk7 (L18.out.later bz)
        have S21 := Hid.mk7 (S19.out.later bz)
        clear E18 RD18 T18 G18 L18 S19 bz
        have bz : RowKit.Below w20.heap.size w20 (w20.alloc (.cells #[.int .i64 0, .slice none 0 0] 24)) := below_newE (RowKit.Below.refl _ _) _
        have nw22 := Hid.mk7 (@Rd.new w20 (.int .i64 0) (.slice none 0 0))
        have E23 := Hid.mk7 (E21.out.later bz)
        have RD23 := Hid.mk7 (RD21.out.later bz)
        have T23 := Hid.mk7 (T21.out.later bz)
        have G23 := Hid.mk7 (G21.out.trans (bz.mono G21.out.size))
        have L23 := Hid.mk7 (L21.out.later bz)
        have S23 := Hid.mk7 (S21.out.later bz)
        clear E21 RD21 T21 G21 L21 S21 bz
        have RDc0 := RD23.out.c0
        have RDc1 := RD23.out.c1
        have RJc0 := nw22.out.c0
        have RJc1 := nw22.out.c1
        go_wp2_with fail
        refine (ris_noF hi' hsm E23.out).mono ?_
        rintro e w24 ⟨rfl, bz⟩
        clear RDc0 RDc1 RJc0 RJc1
        have E25 := Hid.mk7 (E23.out.later bz)
        have RD25 := Hid.mk7 (RD23.out.later bz)
        have T25 := Hid.mk7 (T23.out.later bz)
        have G25 := Hid.mk7 (G23.out.trans (bz.mono G23.out.size))
        have L25 := Hid.mk7 (L23.out.later bz)
        have S25 := Hid.mk7 (S23.out.later bz)
        have RJ25 := Hid.mk7 (nw22.out.later bz)
        clear E23 RD23 T23 G23 L23 S23 nw22 bz
        have RDc0 := RD25.out.c0
        have RDc1 := RD25.out.c1
        have RJc0 := RJ25.out.c0
        have RJc1 := RJ25.out.c1
        go_wp2
        go_ret
        exact ⟨rfl, G25.out⟩
      have hd := dl_of hi
      obtain ⟨N, rfl⟩ : ∃ N : Nat, n = (N : Int) := ⟨n.toNat, by have := hd.b0; omega⟩
      have HIS := Hid.mk7 hi
      have HAK := Hid.mk7 (all_kept hi)
      have HDL := Hid.mk7 hd
      have hKL : (kpb (gon (N : Int) 0 es)).length = N := by
        have gl := gon_len es 0 0 (by omega : (0 : Int) ≤ (N : Int)) hd.nm
        simp [kpb]; omega
      have HKL := Hid.mk7 hKL
      have hN4 : N ≤ 400 := by omega
      clear hd hi hKL
      by_cases hcp : cpS es = N
      case neg =>
        have RDc0 := RD18.out.c0
        have RDc1 := RD18.out.c1
        go_wp2_with fail
        refine (join_drop (N : Int) tb HIS.out hcp E18.out T18.out).mono ?_
        rintro e w20 ⟨rfl, bz⟩
        clear RDc0 RDc1
        have E21 := Hid.mk7 (E18.out.later bz)
        have RD21 := Hid.mk7 (RD18.out.later bz)
        have T21 := Hid.mk7 (T18.out.later bz)
        have G21 := Hid.mk7 (G18.out.trans (bz.mono G18.out.size))
        have L21 := Hid.mk7 (L18.out.later bz)
        have S21 := Hid.mk7 (S19.out.later bz)
        clear E18 RD18 T18 G18 L18 S19 bz
        have bz : RowKit.Below w20.heap.size w20 (w20.alloc (.cells #[.int .i64 0, .slice none 0 0] 24)) := below_newE (RowKit.Below.refl _ _) _
        have nw22 := Hid.mk7 (@Rd.new w20 (.int .i64 0) (.slice none 0 0))
        have E23 := Hid.mk7 (E21.out.later bz)
        have RD23 := Hid.mk7 (RD21.out.later bz)
        have T23 := Hid.mk7 (T21.out.later bz)
        have G23 := Hid.mk7 (G21.out.trans (bz.mono G21.out.size))
        have L23 := Hid.mk7 (L21.out.later bz)
        have S23 := Hid.mk7 (S21.out.later bz)
        clear E21 RD21 T21 G21 L21 S21 bz
        have RDc0 := RD23.out.c0
        have RDc1 := RD23.out.c1
        have RJc0 := nw22.out.c0
        have RJc1 := nw22.out.c1
        go_wp2_with fail
        refine (ris_yesF HIS.out E23.out).mono ?_
        rintro e w24 ⟨rfl, bz⟩
        clear RDc0 RDc1 RJc0 RJc1
        have E25 := Hid.mk7 (E23.out.later bz)
        have RD25 := Hid.mk7 (RD23.out.later bz)
        have T25 := Hid.mk7 (T23.out.later bz)
        have G25 := Hid.mk7 (G23.out.trans (bz.mono G23.out.size))
        have L25 := Hid.mk7 (L23.out.later bz)
        have S25 := Hid.mk7 (S23.out.later bz)
        have RJ25 := Hid.mk7 (nw22.out.later bz)
        clear E23 RD23 T23 G23 L23 S23 nw22 bz
        have RDc0 := RD25.out.c0
        have RDc1 := RD25.out.c1
        have RJc0 := RJ25.out.c0
        have RJc1 := RJ25.out.c1
        go_wp2_with fail
        refine (rkept_any N E25.out HIS.out).mono ?_
        rintro e w26 ⟨kv, rfl, hkv, bz⟩
        clear RDc0 RDc1 RJc0 RJc1
        have E27 := Hid.mk7 (E25.out.later bz)
        have RD27 := Hid.mk7 (RD25.out.later bz)
        have T27 := Hid.mk7 (T25.out.later bz)
        have G27 := Hid.mk7 (G25.out.trans (bz.mono G25.out.size))
        have L27 := Hid.mk7 (L25.out.later bz)
        have S27 := Hid.mk7 (S25.out.later bz)
        have RJ27 := Hid.mk7 (RJ25.out.later bz)
        clear E25 RD25 T25 G25 L25 S25 RJ25 bz
        have KV28 := Hid.mk7 (hkv)
        clear hkv
        have RDc0 := RD27.out.c0
        have RDc1 := RD27.out.c1
        have RJc0 := RJ27.out.c0
        have RJc1 := RJ27.out.c1
        obtain ⟨ka, kcap, rfl, hkc⟩ := KV28.out
        have HKC := Hid.mk7 hkc
        clear hkc
        obtain ⟨K, hK⟩ : ∃ K, kpb (gon (N : Int) 0 es) = K := ⟨_, rfl⟩
        rw [hK] at HKC HAK HKL
        have hKN := HKL.out
        rw [hK, hKN]
        clear hK KV28
        clear RDc0 RDc1 RJc0 RJc1
        go_wp2
        go_loopw [11, 13] (fun bv iv wr => ∃ k : Nat, k ≤ N ∧ iv = .int .i64 (k : Nat) ∧ bv = .bool ((K.take k).all id) ∧ w26 = wr) (fun _ iv _ => N - (intOf iv).toNat)
        case atStart => exact ⟨0, Nat.zero_le _, rfl, rfl, rfl⟩
        case round =>
          obtain ⟨k, hk, rfl, rfl, rfl⟩ := hrel
          by_cases hlt : k < N
          · obtain ⟨b, hr⟩ : ∃ r, K[k]? = some r := ⟨K[k]'(by omega), List.getElem?_eq_getElem _⟩
            obtain ⟨g, off, rfl, q0⟩ := HKC.out k _ hr
            have HTK := Hid.mk7 (all_take (p := id) hr)
            clear hr
            cases hb : (K.take k).all id with
            | false =>
              rw [hb, Bool.false_and] at HTK
              go_wp2
              go_roundw
              case rel => exact ⟨k + 1, by omega, by go_num, by rw [HTK.out], trivial⟩
              case measure => simp [intOf]; omega
            | true =>
              rw [hb, Bool.true_and] at HTK
              go_wp2
              go_roundw
              case rel => exact ⟨k + 1, by omega, by go_num, by rw [HTK.out]; rfl, trivial⟩
              case measure => simp [intOf]; omega
          · obtain rfl : N = k := by omega
            have HWB : Hid ((K.take N).all id = decide (cpS es = N)) := by show _ = _; rw [← HAK.out, ← hKN, List.take_length]
            generalize hwb : (K.take N).all id = wb at *
            clear hwb
            have HW2 : wb = false := by rw [HWB.out]; exact decide_eq_false hcp
            subst HW2
            have RDc0 := RD27.out.c0
            have RDc1 := RD27.out.c1
            have RJc0 := RJ27.out.c0
            have RJc1 := RJ27.out.c1
            go_wp2
            go_ret
            exact ⟨rfl, G27.out⟩
      by_cases hlen : (L.length : Int) = N
      case neg =>
        have l1 : ((L.length : Int) != (N : Int)) = true := by simpa using hlen
        have l2 : decide ((L.length : Int) = (N : Int)) = false := decide_eq_false hlen
        have l3 : (L.length == N) = false := by simp; omega
        have l4 : decide (L.length = N) = false := decide_eq_false (by omega)
        have l5 : ¬ L.length = N := by omega
        have RDc0 := RD18.out.c0
        have RDc1 := RD18.out.c1
        go_wp2_with fail
        refine (join_len (N : Int) tb HIS.out hcp S19.out HOK.out (by omega) E18.out T18.out hlen).mono ?_
        rintro e w20 ⟨rfl, bz⟩
        clear RDc0 RDc1
        have E21 := Hid.mk7 (E18.out.later bz)
        have RD21 := Hid.mk7 (RD18.out.later bz)
        have T21 := Hid.mk7 (T18.out.later bz)
        have G21 := Hid.mk7 (G18.out.trans (bz.mono G18.out.size))
        have L21 := Hid.mk7 (L18.out.later bz)
        have S21 := Hid.mk7 (S19.out.later bz)
        clear E18 RD18 T18 G18 L18 S19 bz
        have bz : RowKit.Below w20.heap.size w20 (w20.alloc (.cells #[.int .i64 0, .slice none 0 0] 24)) := below_newE (RowKit.Below.refl _ _) _
        have nw22 := Hid.mk7 (@Rd.new w20 (.int .i64 0) (.slice none 0 0))
        have E23 := Hid.mk7 (E21.out.later bz)
        have RD23 := Hid.mk7 (RD21.out.later bz)
        have T23 := Hid.mk7 (T21.out.later bz)
        have G23 := Hid.mk7 (G21.out.trans (bz.mono G21.out.size))
        have L23 := Hid.mk7 (L21.out.later bz)
        have S23 := Hid.mk7 (S21.out.later bz)
        clear E21 RD21 T21 G21 L21 S21 bz
        have RDc0 := RD23.out.c0
        have RDc1 := RD23.out.c1
        have RJc0 := nw22.out.c0
        have RJc1 := nw22.out.c1
        go_wp2_with fail
        refine (ris_yesF HIS.out E23.out).mono ?_
        rintro e w24 ⟨rfl, bz⟩
        clear RDc0 RDc1 RJc0 RJc1
        have E25 := Hid.mk7 (E23.out.later bz)
        have RD25 := Hid.mk7 (RD23.out.later bz)
        have T25 := Hid.mk7 (T23.out.later bz)
        have G25 := Hid.mk7 (G23.out.trans (bz.mono G23.out.size))
        have L25 := Hid.mk7 (L23.out.later bz)
        have S25 := Hid.mk7 (S23.out.later bz)
        have RJ25 := Hid.mk7 (nw22.out.later bz)
        clear E23 RD23 T23 G23 L23 S23 nw22 bz
        have RDc0 := RD25.out.c0
        have RDc1 := RD25.out.c1
        have RJc0 := RJ25.out.c0
        have RJc1 := RJ25.out.c1
        go_wp2_with fail
        refine (rkept_any N E25.out HIS.out).mono ?_
        rintro e w26 ⟨kv, rfl, hkv, bz⟩
        clear RDc0 RDc1 RJc0 RJc1
        have E27 := Hid.mk7 (E25.out.later bz)
        have RD27 := Hid.mk7 (RD25.out.later bz)
        have T27 := Hid.mk7 (T25.out.later bz)
        have G27 := Hid.mk7 (G25.out.trans (bz.mono G25.out.size))
        have L27 := Hid.mk7 (L25.out.later bz)
        have S27 := Hid.mk7 (S25.out.later bz)
        have RJ27 := Hid.mk7 (RJ25.out.later bz)
        clear E25 RD25 T25 G25 L25 S25 RJ25 bz
        have KV28 := Hid.mk7 (hkv)
        clear hkv
        have RDc0 := RD27.out.c0
        have RDc1 := RD27.out.c1
        have RJc0 := RJ27.out.c0
        have RJc1 := RJ27.out.c1
        obtain ⟨ka, kcap, rfl, hkc⟩ := KV28.out
        have HKC := Hid.mk7 hkc
        clear hkc
        obtain ⟨K, hK⟩ : ∃ K, kpb (gon (N : Int) 0 es) = K := ⟨_, rfl⟩
        rw [hK] at HKC HAK HKL
        have hKN := HKL.out
        rw [hK, hKN]
        clear hK KV28
        clear RDc0 RDc1 RJc0 RJc1
        go_wp2
        go_loopw [11, 13] (fun bv iv wr => ∃ k : Nat, k ≤ N ∧ iv = .int .i64 (k : Nat) ∧ bv = .bool ((K.take k).all id) ∧ w26 = wr) (fun _ iv _ => N - (intOf iv).toNat)
        case atStart => exact ⟨0, Nat.zero_le _, rfl, rfl, rfl⟩
        case round =>
          obtain ⟨k, hk, rfl, rfl, rfl⟩ := hrel
          by_cases hlt : k < N
          · obtain ⟨b, hr⟩ : ∃ r, K[k]? = some r := ⟨K[k]'(by omega), List.getElem?_eq_getElem _⟩
            obtain ⟨g, off, rfl, q0⟩ := HKC.out k _ hr
            have HTK := Hid.mk7 (all_take (p := id) hr)
            clear hr
            cases hb : (K.take k).all id with
            | false =>
              rw [hb, Bool.false_and] at HTK
              go_wp2
              go_roundw
              case rel => exact ⟨k + 1, by omega, by go_num, by rw [HTK.out], trivial⟩
              case measure => simp [intOf]; omega
            | true =>
              rw [hb, Bool.true_and] at HTK
              go_wp2
              go_roundw
              case rel => exact ⟨k + 1, by omega, by go_num, by rw [HTK.out]; rfl, trivial⟩
              case measure => simp [intOf]; omega
          · obtain rfl : N = k := by omega
            have HWB : Hid ((K.take N).all id = decide (cpS es = N)) := by show _ = _; rw [← HAK.out, ← hKN, List.take_length]
            generalize hwb : (K.take N).all id = wb at *
            clear hwb
            have HW2 : wb = true := by rw [HWB.out]; exact decide_eq_true hcp
            subst HW2
            have RDc0 := RD27.out.c0
            have RDc1 := RD27.out.c1
            have RJc0 := RJ27.out.c0
            have RJc1 := RJ27.out.c1
            go_wp2
            go_ret
            exact ⟨rfl, G27.out⟩
      have l1 : ((L.length : Int) != (N : Int)) = false := by simp; omega
      have l2 : decide ((L.length : Int) = (N : Int)) = true := decide_eq_true hlen
      have hLN : L.length = N := by omega
      obtain ⟨ys, hys⟩ : ∃ ys, tld (fil L (cel es)) = ys := ⟨_, rfl⟩
      obtain ⟨b1, er, hr⟩ : ∃ b1 er : Int, (ys.length ≤ 60 ∧ b1 = N ∧ er = 0) ∨ (60 < ys.length ∧ b1 = 0 ∧ er = 70) := by
        by_cases hm : ys.length ≤ 60
        · exact ⟨N, 0, Or.inl ⟨hm, rfl, rfl⟩⟩
        · exact ⟨0, 70, Or.inr ⟨by omega, rfl, rfl⟩⟩
      obtain ⟨zs1, hz11, hbu⟩ := join_bld (tb := tb) HIS.out (by omega) hys hr
      obtain ⟨zs2, hz22, hto⟩ := told_bld HIS.out hcp HOK.out hlen hys hr
      have HBU := Hid.mk7 hbu
      have HTO := Hid.mk7 hto
      have HCE := Hid.mk7 (fun W (hE : ElAt W (.slice va es.length vcap) es) => cells_row hE HDL.out)
      have HRJ := Hid.mk7 (fun W u (hC : KAt W u (cel es)) (hN : NumAt .i64 W (.slice la L.length lcap) L) => rjoin_any hC hN (cel_lt HIS.out hlen) (cel_40 HDL.out) (by omega))
      have HZ1 : Hid (er = 0 → zs1 = ys ∧ zs2 = ys ∧ ys.length ≤ 60 ∧ b1 = N) := by
        intro he
        rcases hr with ⟨h1, h2, h3⟩ | ⟨h1, h2, h3⟩
        · exact ⟨hz11 h1, hz22 h1, h1, h2⟩
        · omega
      have HER : Hid (er = 0 ∨ er = 70) := by
        rcases hr with ⟨_, _, h3⟩ | ⟨_, _, h3⟩
        · exact Or.inl h3
        · exact Or.inr h3
      have HLEN := Hid.mk7 hlen
      clear hbu hto hz11 hz22 hr hys hlen hLN
      have RDc0 := RD18.out.c0
      have RDc1 := RD18.out.c1
      go_wp2_with fail
      refine (join_gen (N : Int) b1 er tb HIS.out hcp S19.out HOK.out (by omega) E18.out T18.out HLEN.out HBU.out).mono ?_
      rintro e w20 ⟨jv, rfl, hjv, bz⟩
      clear RDc0 RDc1
      obtain ⟨ja, jc, rfl, _, _, _⟩ := id hjv
      have E21 := Hid.mk7 (E18.out.later bz)
      have RD21 := Hid.mk7 (RD18.out.later bz)
      have T21 := Hid.mk7 (T18.out.later bz)
      have G21 := Hid.mk7 (G18.out.trans (bz.mono G18.out.size))
      have L21 := Hid.mk7 (L18.out.later bz)
      have S21 := Hid.mk7 (S19.out.later bz)
      clear E18 RD18 T18 G18 L18 S19 bz
      have J22 := Hid.mk7 (hjv)
      clear hjv
      have bz : RowKit.Below w20.heap.size w20 (w20.alloc (.cells #[.int .i64 b1, .slice ja zs1.length jc] 24)) := below_newE (RowKit.Below.refl _ _) _
      have nw23 := Hid.mk7 (@Rd.new w20 (.int .i64 b1) (.slice ja zs1.length jc))
      have E24 := Hid.mk7 (E21.out.later bz)
      have RD24 := Hid.mk7 (RD21.out.later bz)
      have T24 := Hid.mk7 (T21.out.later bz)
      have G24 := Hid.mk7 (G21.out.trans (bz.mono G21.out.size))
      have L24 := Hid.mk7 (L21.out.later bz)
      have S24 := Hid.mk7 (S21.out.later bz)
      have J24 := Hid.mk7 (J22.out.later bz)
      clear E21 RD21 T21 G21 L21 S21 J22 bz
      have RDc0 := RD24.out.c0
      have RDc1 := RD24.out.c1
      have RJc0 := nw23.out.c0
      have RJc1 := nw23.out.c1
      go_wp2_with fail
      refine (ris_yesF HIS.out E24.out).mono ?_
      rintro e w25 ⟨rfl, bz⟩
      clear RDc0 RDc1 RJc0 RJc1
      have E26 := Hid.mk7 (E24.out.later bz)
      have RD26 := Hid.mk7 (RD24.out.later bz)
      have T26 := Hid.mk7 (T24.out.later bz)
      have G26 := Hid.mk7 (G24.out.trans (bz.mono G24.out.size))
      have L26 := Hid.mk7 (L24.out.later bz)
      have S26 := Hid.mk7 (S24.out.later bz)
      have J26 := Hid.mk7 (J24.out.later bz)
      have RJ26 := Hid.mk7 (nw23.out.later bz)
      clear E24 RD24 T24 G24 L24 S24 J24 nw23 bz
      have RDc0 := RD26.out.c0
      have RDc1 := RD26.out.c1
      have RJc0 := RJ26.out.c0
      have RJc1 := RJ26.out.c1
      go_wp2_with fail
      refine (rkept_any N E26.out HIS.out).mono ?_
      rintro e w27 ⟨kv, rfl, hkv, bz⟩
      clear RDc0 RDc1 RJc0 RJc1
      have E28 := Hid.mk7 (E26.out.later bz)
      have RD28 := Hid.mk7 (RD26.out.later bz)
      have T28 := Hid.mk7 (T26.out.later bz)
      have G28 := Hid.mk7 (G26.out.trans (bz.mono G26.out.size))
      have L28 := Hid.mk7 (L26.out.later bz)
      have S28 := Hid.mk7 (S26.out.later bz)
      have J28 := Hid.mk7 (J26.out.later bz)
      have RJ28 := Hid.mk7 (RJ26.out.later bz)
      clear E26 RD26 T26 G26 L26 S26 J26 RJ26 bz
      have KV29 := Hid.mk7 (hkv)
      clear hkv
      have RDc0 := RD28.out.c0
      have RDc1 := RD28.out.c1
      have RJc0 := RJ28.out.c0
      have RJc1 := RJ28.out.c1
      obtain ⟨ka, kcap, rfl, hkc⟩ := KV29.out
      have HKC := Hid.mk7 hkc
      clear hkc
      obtain ⟨K, hK⟩ : ∃ K, kpb (gon (N : Int) 0 es) = K := ⟨_, rfl⟩
      rw [hK] at HKC HAK HKL
      have hKN := HKL.out
      rw [hK, hKN]
      clear hK KV29
      clear RDc0 RDc1 RJc0 RJc1
      go_wp2
      go_loopw [11, 13] (fun bv iv wr => ∃ k : Nat, k ≤ N ∧ iv = .int .i64 (k : Nat) ∧ bv = .bool ((K.take k).all id) ∧ w27 = wr) (fun _ iv _ => N - (intOf iv).toNat)
      case atStart => exact ⟨0, Nat.zero_le _, rfl, rfl, rfl⟩
      case round =>
        obtain ⟨k, hk, rfl, rfl, rfl⟩ := hrel
        by_cases hlt : k < N
        · obtain ⟨b, hr⟩ : ∃ r, K[k]? = some r := ⟨K[k]'(by omega), List.getElem?_eq_getElem _⟩
          obtain ⟨g, off, rfl, q0⟩ := HKC.out k _ hr
          have HTK := Hid.mk7 (all_take (p := id) hr)
          clear hr
          cases hb : (K.take k).all id with
          | false =>
            rw [hb, Bool.false_and] at HTK
            go_wp2
            go_roundw
            case rel => exact ⟨k + 1, by omega, by go_num, by rw [HTK.out], trivial⟩
            case measure => simp [intOf]; omega
          | true =>
            rw [hb, Bool.true_and] at HTK
            go_wp2
            go_roundw
            case rel => exact ⟨k + 1, by omega, by go_num, by rw [HTK.out]; rfl, trivial⟩
            case measure => simp [intOf]; omega
        · obtain rfl : N = k := by omega
          have HWB : Hid ((K.take N).all id = decide (cpS es = N)) := by show _ = _; rw [← HAK.out, ← hKN, List.take_length]
          generalize hwb : (K.take N).all id = wb at *
          clear hwb
          have HW2 : wb = true := by rw [HWB.out]; exact decide_eq_true hcp
          subst HW2
          have HRD := RD28
          have HE := E28
          have HL := L28
          have RDc0 := RD28.out.c0
          have RDc1 := RD28.out.c1
          have RJc0 := RJ28.out.c0
          have RJc1 := RJ28.out.c1
          go_upto_region 25 with fail
          generalize hwj : w27 = wj at *
          clear RDc0 RDc1 RJc0 RJc1
          go_cut [14, 15] from 104 to 114 (fun s14 s15 wx => ∃ (gz : Nat) (yv : Value), s14 = .pointer (some ⟨gz, 0, none⟩) ∧ s15 = .int .i64 er ∧ Hid (Rd wx gz (.int .i64 b1) yv) ∧ Hid (ElAt wx yv zs2) ∧ Hid (RowKit.Below wj.heap.size wj wx))
          case first =>
            refine wp_region_turns (fun w' => ∃ q : (GW (fun W => Rd W w.heap.size (.int .i64 (N : Nat)) (.slice va es.length vcap))), w' = q.w) [0, 1, 2, 4] 12 9 (by kernel_rfl) (by kernel_rfl) (fun d => ⟨⟨redrawn wj d, HRD.out.later (below_redrawnE wj d)⟩, rfl⟩) ?_
            intro d
            have k0 : ∀ q : (GW (fun W => Rd W w.heap.size (.int .i64 (N : Nat)) (.slice va es.length vcap))), q.w.cell? ⟨w.heap.size, 0, none⟩ = some (.int .i64 (N : Nat)) := fun q => q.h.c0
            have k1 : ∀ q : (GW (fun W => Rd W w.heap.size (.int .i64 (N : Nat)) (.slice va es.length vcap))), q.w.cell? ⟨w.heap.size, 1, none⟩ = some (.slice va es.length vcap) := fun q => q.h.c1
            simp only [pickAll, pickAt, List.nil_append, List.cons_append, List.append_nil]
            have hne : Nonempty (GW (fun W => Rd W w.heap.size (.int .i64 (N : Nat)) (.slice va es.length vcap))) := ⟨⟨wj, HRD.out⟩⟩
            repeat (go_big_quiet_step (fail))
            refine wpQuiet_nil ?_
            clear hne k0 k1
            have bb0 := Hid.mk7 (below_redrawnE wj d)
            generalize redrawn wj d = x0 at *
            refine anyC_pick2 3 10 (by kernel_rfl) (by kernel_rfl) (by kernel_rfl) ?_ ?_
            · simp only [pickAll, pickAt, List.nil_append, List.cons_append, List.append_nil]
              go_wp2_with fail
              refine (HCE.out _ (HE.out.later bb0.out)).mono ?_
              rintro e x1 ⟨cv, rfl, hy, bz⟩
              have C1 := Hid.mk7 hy
              have bb1 : Hid (RowKit.Below wj.heap.size wj x1) := bb0.out.trans (bz.mono bb0.out.size)
              clear bz hy
              go_wp2
              refine anyNext_mk ⟨⟨_, HRD.out.later bb1.out⟩, rfl⟩ ?_
              refine anyC_pick2 5 10 (by kernel_rfl) (by kernel_rfl) (by kernel_rfl) ?_ ?_
              · simp only [pickAll, pickAt, List.nil_append, List.cons_append, List.append_nil]
                go_wp2_with fail
                refine (HRJ.out _ _ C1.out (HL.out.later bb1.out)).mono ?_
                rintro e x2 ⟨cv, rfl, hy, bz⟩
                have C2 := Hid.mk7 hy
                have bb2 : Hid (RowKit.Below wj.heap.size wj x2) := bb1.out.trans (bz.mono bb1.out.size)
                clear bz hy
                go_wp2
                refine anyNext_mk ⟨⟨_, HRD.out.later bb2.out⟩, rfl⟩ ?_
                refine anyC_pick2 6 10 (by kernel_rfl) (by kernel_rfl) (by kernel_rfl) ?_ ?_
                · simp only [pickAll, pickAt, List.nil_append, List.cons_append, List.append_nil]
                  go_wp2_with fail
                  refine (HTO.out _ _ C2.out).mono ?_
                  rintro e x3 ⟨yv, rfl, hy, bz⟩
                  obtain ⟨ya, yc, rfl, _, _, _⟩ := id hy
                  have Y3 := Hid.mk7 hy
                  have bb3 : Hid (RowKit.Below wj.heap.size wj x3) := bb2.out.trans (bz.mono bb2.out.size)
                  clear bz hy
                  go_wp2
                  refine anyNext_mk ⟨⟨_, HRD.out.later bb3.out⟩, rfl⟩ ?_
                  refine anyC_pick2 7 10 (by kernel_rfl) (by kernel_rfl) (by kernel_rfl) ?_ ?_
                  · simp only [pickAll, pickAt, List.nil_append, List.cons_append, List.append_nil]
                    go_wp2
                    refine anyNext_mk ⟨⟨_, HRD.out.later bb3.out⟩, rfl⟩ ?_
                    refine anyC_pick3F 8 9 10 (by kernel_rfl) (by kernel_rfl) (by kernel_rfl) (by kernel_rfl) ?_ ?_ ?_
                    · simp only [pickAll, pickAt, List.nil_append, List.cons_append, List.append_nil]
                      go_wp2
                      refine anyNext_mk ⟨⟨_, HRD.out.later bb3.out⟩, rfl⟩ ?_
                      refine anyC_pick2 9 10 (by kernel_rfl) (by kernel_rfl) (by kernel_rfl) ?_ ?_
                      · simp only [pickAll, pickAt, List.nil_append, List.cons_append, List.append_nil]
                        go_wp2
                        refine anyNext_mk ⟨⟨_, HRD.out.later bb3.out⟩, rfl⟩ ?_
                        refine anyC_pick1 10 (by kernel_rfl) (by kernel_rfl) ?_
                        simp only [pickAll, pickAt, List.nil_append, List.cons_append, List.append_nil]
                        have Y7 := Hid.mk7 (Y3.out.alloc (.cells #[.int .i64 0, .slice none 0 0] 24))
                        have Z7 : Hid (Rd (x3.alloc (.cells #[.int .i64 0, .slice none 0 0] 24)) x3.heap.size (.int .i64 0) (.slice none 0 0)) := Rd.new _ _ _
                        have bb7 : Hid (RowKit.Below wj.heap.size wj (x3.alloc (.cells #[.int .i64 0, .slice none 0 0] 24))) := bb3.out.alloc bb3.out.size _
                        have hgz := bb3.out.size
                        go_wp2
                        generalize (x3.alloc (.cells #[.int .i64 0, .slice none 0 0] 24)) = x7 at *
                        generalize x3.heap.size = gz at *
                        refine anyNext_mk ⟨⟨_, HRD.out.later bb7.out⟩, rfl⟩ ?_
                        refine anyC_pick1 11 (by kernel_rfl) (by kernel_rfl) ?_
                        simp only [pickAll, pickAt, List.nil_append, List.cons_append, List.append_nil]
                        have c0 := Z7.out.c0
                        have c1 := Z7.out.c1
                        have fz := Z7.out.fz
                        have c2 : (x7.setCell ⟨gz, 0, none⟩ (.int .i64 b1)).cell? ⟨gz, 1, none⟩ = some (.slice none 0 0) := (Z7.out.set0 _).c1
                        have fz2 := (Z7.out.set0 (.int .i64 b1)).fz
                        have Y8 := Hid.mk7 (Y7.out.set_del Z7.out (.int .i64 b1) (.slice ya zs2.length yc))
                        have Z8 := Hid.mk7 (Z7.out.set (.int .i64 b1) (.slice ya zs2.length yc))
                        have bb8 : Hid (RowKit.Below wj.heap.size wj ((x7.setCell ⟨gz, 0, none⟩ (.int .i64 b1)).setCell ⟨gz, 1, none⟩ (.slice ya zs2.length yc))) := below_set2 bb7.out hgz _ _
                        go_wp2
                        clear c0 c1 c2 fz fz2
                        generalize ((x7.setCell ⟨gz, 0, none⟩ (.int .i64 b1)).setCell ⟨gz, 1, none⟩ (.slice ya zs2.length yc)) = x8 at *
                        refine anyNext_mk ⟨⟨_, HRD.out.later bb8.out⟩, rfl⟩ ?_
                        refine anyC_pick1 12 (by kernel_rfl) (by kernel_rfl) ?_
                        simp only [pickAll, pickAt, List.nil_append, List.cons_append, List.append_nil]
                        go_wp2
                        refine anyNext_last (anyC_done (by kernel_rfl) ?_)
                        go_wp2
                        go_meet
                        exact ⟨gz, _, rfl, rfl, Z8, Y8, bb8⟩
                      · simp only [pickAll, pickAt, List.nil_append, List.cons_append, List.append_nil]
                        have Y10 := Hid.mk7 (Y3.out.alloc (.cells #[.int .i64 0, .slice none 0 0] 24))
                        have Z10 : Hid (Rd (x3.alloc (.cells #[.int .i64 0, .slice none 0 0] 24)) x3.heap.size (.int .i64 0) (.slice none 0 0)) := Rd.new _ _ _
                        have bb10 : Hid (RowKit.Below wj.heap.size wj (x3.alloc (.cells #[.int .i64 0, .slice none 0 0] 24))) := bb3.out.alloc bb3.out.size _
                        have hgz := bb3.out.size
                        go_wp2
                        generalize (x3.alloc (.cells #[.int .i64 0, .slice none 0 0] 24)) = x10 at *
                        generalize x3.heap.size = gz at *
                        refine anyNext_mk ⟨⟨_, HRD.out.later bb10.out⟩, rfl⟩ ?_
                        refine anyC_pick2 9 11 (by kernel_rfl) (by kernel_rfl) (by kernel_rfl) ?_ ?_
                        · simp only [pickAll, pickAt, List.nil_append, List.cons_append, List.append_nil]
                          go_wp2
                          refine anyNext_mk ⟨⟨_, HRD.out.later bb10.out⟩, rfl⟩ ?_
                          refine anyC_pick1 11 (by kernel_rfl) (by kernel_rfl) ?_
                          simp only [pickAll, pickAt, List.nil_append, List.cons_append, List.append_nil]
                          have c0 := Z10.out.c0
                          have c1 := Z10.out.c1
                          have fz := Z10.out.fz
                          have c2 : (x10.setCell ⟨gz, 0, none⟩ (.int .i64 b1)).cell? ⟨gz, 1, none⟩ = some (.slice none 0 0) := (Z10.out.set0 _).c1
                          have fz2 := (Z10.out.set0 (.int .i64 b1)).fz
                          have Y12 := Hid.mk7 (Y10.out.set_del Z10.out (.int .i64 b1) (.slice ya zs2.length yc))
                          have Z12 := Hid.mk7 (Z10.out.set (.int .i64 b1) (.slice ya zs2.length yc))
                          have bb12 : Hid (RowKit.Below wj.heap.size wj ((x10.setCell ⟨gz, 0, none⟩ (.int .i64 b1)).setCell ⟨gz, 1, none⟩ (.slice ya zs2.length yc))) := below_set2 bb10.out hgz _ _
                          go_wp2
                          clear c0 c1 c2 fz fz2
                          generalize ((x10.setCell ⟨gz, 0, none⟩ (.int .i64 b1)).setCell ⟨gz, 1, none⟩ (.slice ya zs2.length yc)) = x12 at *
                          refine anyNext_mk ⟨⟨_, HRD.out.later bb12.out⟩, rfl⟩ ?_
                          refine anyC_pick1 12 (by kernel_rfl) (by kernel_rfl) ?_
                          simp only [pickAll, pickAt, List.nil_append, List.cons_append, List.append_nil]
                          go_wp2
                          refine anyNext_last (anyC_done (by kernel_rfl) ?_)
                          go_wp2
                          go_meet
                          exact ⟨gz, _, rfl, rfl, Z12, Y12, bb12⟩
                        · simp only [pickAll, pickAt, List.nil_append, List.cons_append, List.append_nil]
                          have c0 := Z10.out.c0
                          have c1 := Z10.out.c1
                          have fz := Z10.out.fz
                          have c2 : (x10.setCell ⟨gz, 0, none⟩ (.int .i64 b1)).cell? ⟨gz, 1, none⟩ = some (.slice none 0 0) := (Z10.out.set0 _).c1
                          have fz2 := (Z10.out.set0 (.int .i64 b1)).fz
                          have Y14 := Hid.mk7 (Y10.out.set_del Z10.out (.int .i64 b1) (.slice ya zs2.length yc))
                          have Z14 := Hid.mk7 (Z10.out.set (.int .i64 b1) (.slice ya zs2.length yc))
                          have bb14 : Hid (RowKit.Below wj.heap.size wj ((x10.setCell ⟨gz, 0, none⟩ (.int .i64 b1)).setCell ⟨gz, 1, none⟩ (.slice ya zs2.length yc))) := below_set2 bb10.out hgz _ _
                          go_wp2
                          clear c0 c1 c2 fz fz2
                          generalize ((x10.setCell ⟨gz, 0, none⟩ (.int .i64 b1)).setCell ⟨gz, 1, none⟩ (.slice ya zs2.length yc)) = x14 at *
                          refine anyNext_mk ⟨⟨_, HRD.out.later bb14.out⟩, rfl⟩ ?_
                          refine anyC_pick1 9 (by kernel_rfl) (by kernel_rfl) ?_
                          simp only [pickAll, pickAt, List.nil_append, List.cons_append, List.append_nil]
                          go_wp2
                          refine anyNext_mk ⟨⟨_, HRD.out.later bb14.out⟩, rfl⟩ ?_
                          refine anyC_pick1 12 (by kernel_rfl) (by kernel_rfl) ?_
                          simp only [pickAll, pickAt, List.nil_append, List.cons_append, List.append_nil]
                          go_wp2
                          refine anyNext_last (anyC_done (by kernel_rfl) ?_)
                          go_wp2
                          go_meet
                          exact ⟨gz, _, rfl, rfl, Z14, Y14, bb14⟩
                    · simp only [pickAll, pickAt, List.nil_append, List.cons_append, List.append_nil]
                      go_wp2
                      refine anyNext_mk ⟨⟨_, HRD.out.later bb3.out⟩, rfl⟩ ?_
                      refine anyC_pick2 8 10 (by kernel_rfl) (by kernel_rfl) (by kernel_rfl) ?_ ?_
                      · simp only [pickAll, pickAt, List.nil_append, List.cons_append, List.append_nil]
                        go_wp2
                        refine anyNext_mk ⟨⟨_, HRD.out.later bb3.out⟩, rfl⟩ ?_
                        refine anyC_pick1 10 (by kernel_rfl) (by kernel_rfl) ?_
                        simp only [pickAll, pickAt, List.nil_append, List.cons_append, List.append_nil]
                        have Y19 := Hid.mk7 (Y3.out.alloc (.cells #[.int .i64 0, .slice none 0 0] 24))
                        have Z19 : Hid (Rd (x3.alloc (.cells #[.int .i64 0, .slice none 0 0] 24)) x3.heap.size (.int .i64 0) (.slice none 0 0)) := Rd.new _ _ _
                        have bb19 : Hid (RowKit.Below wj.heap.size wj (x3.alloc (.cells #[.int .i64 0, .slice none 0 0] 24))) := bb3.out.alloc bb3.out.size _
                        have hgz := bb3.out.size
                        go_wp2
                        generalize (x3.alloc (.cells #[.int .i64 0, .slice none 0 0] 24)) = x19 at *
                        generalize x3.heap.size = gz at *
                        refine anyNext_mk ⟨⟨_, HRD.out.later bb19.out⟩, rfl⟩ ?_
                        refine anyC_pick1 11 (by kernel_rfl) (by kernel_rfl) ?_
                        simp only [pickAll, pickAt, List.nil_append, List.cons_append, List.append_nil]
                        have c0 := Z19.out.c0
                        have c1 := Z19.out.c1
                        have fz := Z19.out.fz
                        have c2 : (x19.setCell ⟨gz, 0, none⟩ (.int .i64 b1)).cell? ⟨gz, 1, none⟩ = some (.slice none 0 0) := (Z19.out.set0 _).c1
                        have fz2 := (Z19.out.set0 (.int .i64 b1)).fz
                        have Y20 := Hid.mk7 (Y19.out.set_del Z19.out (.int .i64 b1) (.slice ya zs2.length yc))
                        have Z20 := Hid.mk7 (Z19.out.set (.int .i64 b1) (.slice ya zs2.length yc))
                        have bb20 : Hid (RowKit.Below wj.heap.size wj ((x19.setCell ⟨gz, 0, none⟩ (.int .i64 b1)).setCell ⟨gz, 1, none⟩ (.slice ya zs2.length yc))) := below_set2 bb19.out hgz _ _
                        go_wp2
                        clear c0 c1 c2 fz fz2
                        generalize ((x19.setCell ⟨gz, 0, none⟩ (.int .i64 b1)).setCell ⟨gz, 1, none⟩ (.slice ya zs2.length yc)) = x20 at *
                        refine anyNext_mk ⟨⟨_, HRD.out.later bb20.out⟩, rfl⟩ ?_
                        refine anyC_pick1 12 (by kernel_rfl) (by kernel_rfl) ?_
                        simp only [pickAll, pickAt, List.nil_append, List.cons_append, List.append_nil]
                        go_wp2
                        refine anyNext_last (anyC_done (by kernel_rfl) ?_)
                        go_wp2
                        go_meet
                        exact ⟨gz, _, rfl, rfl, Z20, Y20, bb20⟩
                      · simp only [pickAll, pickAt, List.nil_append, List.cons_append, List.append_nil]
                        have Y22 := Hid.mk7 (Y3.out.alloc (.cells #[.int .i64 0, .slice none 0 0] 24))
                        have Z22 : Hid (Rd (x3.alloc (.cells #[.int .i64 0, .slice none 0 0] 24)) x3.heap.size (.int .i64 0) (.slice none 0 0)) := Rd.new _ _ _
                        have bb22 : Hid (RowKit.Below wj.heap.size wj (x3.alloc (.cells #[.int .i64 0, .slice none 0 0] 24))) := bb3.out.alloc bb3.out.size _
                        have hgz := bb3.out.size
                        go_wp2
                        generalize (x3.alloc (.cells #[.int .i64 0, .slice none 0 0] 24)) = x22 at *
                        generalize x3.heap.size = gz at *
                        refine anyNext_mk ⟨⟨_, HRD.out.later bb22.out⟩, rfl⟩ ?_
                        refine anyC_pick1 8 (by kernel_rfl) (by kernel_rfl) ?_
                        simp only [pickAll, pickAt, List.nil_append, List.cons_append, List.append_nil]
                        go_wp2
                        refine anyNext_mk ⟨⟨_, HRD.out.later bb22.out⟩, rfl⟩ ?_
                        refine anyC_pick1 11 (by kernel_rfl) (by kernel_rfl) ?_
                        simp only [pickAll, pickAt, List.nil_append, List.cons_append, List.append_nil]
                        have c0 := Z22.out.c0
                        have c1 := Z22.out.c1
                        have fz := Z22.out.fz
                        have c2 : (x22.setCell ⟨gz, 0, none⟩ (.int .i64 b1)).cell? ⟨gz, 1, none⟩ = some (.slice none 0 0) := (Z22.out.set0 _).c1
                        have fz2 := (Z22.out.set0 (.int .i64 b1)).fz
                        have Y24 := Hid.mk7 (Y22.out.set_del Z22.out (.int .i64 b1) (.slice ya zs2.length yc))
                        have Z24 := Hid.mk7 (Z22.out.set (.int .i64 b1) (.slice ya zs2.length yc))
                        have bb24 : Hid (RowKit.Below wj.heap.size wj ((x22.setCell ⟨gz, 0, none⟩ (.int .i64 b1)).setCell ⟨gz, 1, none⟩ (.slice ya zs2.length yc))) := below_set2 bb22.out hgz _ _
                        go_wp2
                        clear c0 c1 c2 fz fz2
                        generalize ((x22.setCell ⟨gz, 0, none⟩ (.int .i64 b1)).setCell ⟨gz, 1, none⟩ (.slice ya zs2.length yc)) = x24 at *
                        refine anyNext_mk ⟨⟨_, HRD.out.later bb24.out⟩, rfl⟩ ?_
                        refine anyC_pick1 12 (by kernel_rfl) (by kernel_rfl) ?_
                        simp only [pickAll, pickAt, List.nil_append, List.cons_append, List.append_nil]
                        go_wp2
                        refine anyNext_last (anyC_done (by kernel_rfl) ?_)
                        go_wp2
                        go_meet
                        exact ⟨gz, _, rfl, rfl, Z24, Y24, bb24⟩
                    · simp only [pickAll, pickAt, List.nil_append, List.cons_append, List.append_nil]
                      have Y26 := Hid.mk7 (Y3.out.alloc (.cells #[.int .i64 0, .slice none 0 0] 24))
                      have Z26 : Hid (Rd (x3.alloc (.cells #[.int .i64 0, .slice none 0 0] 24)) x3.heap.size (.int .i64 0) (.slice none 0 0)) := Rd.new _ _ _
                      have bb26 : Hid (RowKit.Below wj.heap.size wj (x3.alloc (.cells #[.int .i64 0, .slice none 0 0] 24))) := bb3.out.alloc bb3.out.size _
                      have hgz := bb3.out.size
                      go_wp2
                      generalize (x3.alloc (.cells #[.int .i64 0, .slice none 0 0] 24)) = x26 at *
                      generalize x3.heap.size = gz at *
                      refine anyNext_mk ⟨⟨_, HRD.out.later bb26.out⟩, rfl⟩ ?_
                      refine anyC_pick2 8 9 (by kernel_rfl) (by kernel_rfl) (by kernel_rfl) ?_ ?_
                      · simp only [pickAll, pickAt, List.nil_append, List.cons_append, List.append_nil]
                        go_wp2
                        refine anyNext_mk ⟨⟨_, HRD.out.later bb26.out⟩, rfl⟩ ?_
                        refine anyC_pick2 9 11 (by kernel_rfl) (by kernel_rfl) (by kernel_rfl) ?_ ?_
                        · simp only [pickAll, pickAt, List.nil_append, List.cons_append, List.append_nil]
                          go_wp2
                          refine anyNext_mk ⟨⟨_, HRD.out.later bb26.out⟩, rfl⟩ ?_
                          refine anyC_pick1 11 (by kernel_rfl) (by kernel_rfl) ?_
                          simp only [pickAll, pickAt, List.nil_append, List.cons_append, List.append_nil]
                          have c0 := Z26.out.c0
                          have c1 := Z26.out.c1
                          have fz := Z26.out.fz
                          have c2 : (x26.setCell ⟨gz, 0, none⟩ (.int .i64 b1)).cell? ⟨gz, 1, none⟩ = some (.slice none 0 0) := (Z26.out.set0 _).c1
                          have fz2 := (Z26.out.set0 (.int .i64 b1)).fz
                          have Y29 := Hid.mk7 (Y26.out.set_del Z26.out (.int .i64 b1) (.slice ya zs2.length yc))
                          have Z29 := Hid.mk7 (Z26.out.set (.int .i64 b1) (.slice ya zs2.length yc))
                          have bb29 : Hid (RowKit.Below wj.heap.size wj ((x26.setCell ⟨gz, 0, none⟩ (.int .i64 b1)).setCell ⟨gz, 1, none⟩ (.slice ya zs2.length yc))) := below_set2 bb26.out hgz _ _
                          go_wp2
                          clear c0 c1 c2 fz fz2
                          generalize ((x26.setCell ⟨gz, 0, none⟩ (.int .i64 b1)).setCell ⟨gz, 1, none⟩ (.slice ya zs2.length yc)) = x29 at *
                          refine anyNext_mk ⟨⟨_, HRD.out.later bb29.out⟩, rfl⟩ ?_
                          refine anyC_pick1 12 (by kernel_rfl) (by kernel_rfl) ?_
                          simp only [pickAll, pickAt, List.nil_append, List.cons_append, List.append_nil]
                          go_wp2
                          refine anyNext_last (anyC_done (by kernel_rfl) ?_)
                          go_wp2
                          go_meet
                          exact ⟨gz, _, rfl, rfl, Z29, Y29, bb29⟩
                        · simp only [pickAll, pickAt, List.nil_append, List.cons_append, List.append_nil]
                          have c0 := Z26.out.c0
                          have c1 := Z26.out.c1
                          have fz := Z26.out.fz
                          have c2 : (x26.setCell ⟨gz, 0, none⟩ (.int .i64 b1)).cell? ⟨gz, 1, none⟩ = some (.slice none 0 0) := (Z26.out.set0 _).c1
                          have fz2 := (Z26.out.set0 (.int .i64 b1)).fz
                          have Y31 := Hid.mk7 (Y26.out.set_del Z26.out (.int .i64 b1) (.slice ya zs2.length yc))
                          have Z31 := Hid.mk7 (Z26.out.set (.int .i64 b1) (.slice ya zs2.length yc))
                          have bb31 : Hid (RowKit.Below wj.heap.size wj ((x26.setCell ⟨gz, 0, none⟩ (.int .i64 b1)).setCell ⟨gz, 1, none⟩ (.slice ya zs2.length yc))) := below_set2 bb26.out hgz _ _
                          go_wp2
                          clear c0 c1 c2 fz fz2
                          generalize ((x26.setCell ⟨gz, 0, none⟩ (.int .i64 b1)).setCell ⟨gz, 1, none⟩ (.slice ya zs2.length yc)) = x31 at *
                          refine anyNext_mk ⟨⟨_, HRD.out.later bb31.out⟩, rfl⟩ ?_
                          refine anyC_pick1 9 (by kernel_rfl) (by kernel_rfl) ?_
                          simp only [pickAll, pickAt, List.nil_append, List.cons_append, List.append_nil]
                          go_wp2
                          refine anyNext_mk ⟨⟨_, HRD.out.later bb31.out⟩, rfl⟩ ?_
                          refine anyC_pick1 12 (by kernel_rfl) (by kernel_rfl) ?_
                          simp only [pickAll, pickAt, List.nil_append, List.cons_append, List.append_nil]
                          go_wp2
                          refine anyNext_last (anyC_done (by kernel_rfl) ?_)
                          go_wp2
                          go_meet
                          exact ⟨gz, _, rfl, rfl, Z31, Y31, bb31⟩
                      · simp only [pickAll, pickAt, List.nil_append, List.cons_append, List.append_nil]
                        go_wp2
                        refine anyNext_mk ⟨⟨_, HRD.out.later bb26.out⟩, rfl⟩ ?_
                        refine anyC_pick1 8 (by kernel_rfl) (by kernel_rfl) ?_
                        simp only [pickAll, pickAt, List.nil_append, List.cons_append, List.append_nil]
                        go_wp2
                        refine anyNext_mk ⟨⟨_, HRD.out.later bb26.out⟩, rfl⟩ ?_
                        refine anyC_pick1 11 (by kernel_rfl) (by kernel_rfl) ?_
                        simp only [pickAll, pickAt, List.nil_append, List.cons_append, List.append_nil]
                        have c0 := Z26.out.c0
                        have c1 := Z26.out.c1
                        have fz := Z26.out.fz
                        have c2 : (x26.setCell ⟨gz, 0, none⟩ (.int .i64 b1)).cell? ⟨gz, 1, none⟩ = some (.slice none 0 0) := (Z26.out.set0 _).c1
                        have fz2 := (Z26.out.set0 (.int .i64 b1)).fz
                        have Y36 := Hid.mk7 (Y26.out.set_del Z26.out (.int .i64 b1) (.slice ya zs2.length yc))
                        have Z36 := Hid.mk7 (Z26.out.set (.int .i64 b1) (.slice ya zs2.length yc))
                        have bb36 : Hid (RowKit.Below wj.heap.size wj ((x26.setCell ⟨gz, 0, none⟩ (.int .i64 b1)).setCell ⟨gz, 1, none⟩ (.slice ya zs2.length yc))) := below_set2 bb26.out hgz _ _
                        go_wp2
                        clear c0 c1 c2 fz fz2
                        generalize ((x26.setCell ⟨gz, 0, none⟩ (.int .i64 b1)).setCell ⟨gz, 1, none⟩ (.slice ya zs2.length yc)) = x36 at *
                        refine anyNext_mk ⟨⟨_, HRD.out.later bb36.out⟩, rfl⟩ ?_
                        refine anyC_pick1 12 (by kernel_rfl) (by kernel_rfl) ?_
                        simp only [pickAll, pickAt, List.nil_append, List.cons_append, List.append_nil]
                        go_wp2
                        refine anyNext_last (anyC_done (by kernel_rfl) ?_)
                        go_wp2
                        go_meet
                        exact ⟨gz, _, rfl, rfl, Z36, Y36, bb36⟩
                  · simp only [pickAll, pickAt, List.nil_append, List.cons_append, List.append_nil]
                    have Y38 := Hid.mk7 (Y3.out.alloc (.cells #[.int .i64 0, .slice none 0 0] 24))
                    have Z38 : Hid (Rd (x3.alloc (.cells #[.int .i64 0, .slice none 0 0] 24)) x3.heap.size (.int .i64 0) (.slice none 0 0)) := Rd.new _ _ _
                    have bb38 : Hid (RowKit.Below wj.heap.size wj (x3.alloc (.cells #[.int .i64 0, .slice none 0 0] 24))) := bb3.out.alloc bb3.out.size _
                    have hgz := bb3.out.size
                    go_wp2
                    generalize (x3.alloc (.cells #[.int .i64 0, .slice none 0 0] 24)) = x38 at *
                    generalize x3.heap.size = gz at *
                    refine anyNext_mk ⟨⟨_, HRD.out.later bb38.out⟩, rfl⟩ ?_
                    refine anyC_pick1 7 (by kernel_rfl) (by kernel_rfl) ?_
                    simp only [pickAll, pickAt, List.nil_append, List.cons_append, List.append_nil]
                    go_wp2
                    refine anyNext_mk ⟨⟨_, HRD.out.later bb38.out⟩, rfl⟩ ?_
                    refine anyC_pick2 8 9 (by kernel_rfl) (by kernel_rfl) (by kernel_rfl) ?_ ?_
                    · simp only [pickAll, pickAt, List.nil_append, List.cons_append, List.append_nil]
                      go_wp2
                      refine anyNext_mk ⟨⟨_, HRD.out.later bb38.out⟩, rfl⟩ ?_
                      refine anyC_pick2 9 11 (by kernel_rfl) (by kernel_rfl) (by kernel_rfl) ?_ ?_
                      · simp only [pickAll, pickAt, List.nil_append, List.cons_append, List.append_nil]
                        go_wp2
                        refine anyNext_mk ⟨⟨_, HRD.out.later bb38.out⟩, rfl⟩ ?_
                        refine anyC_pick1 11 (by kernel_rfl) (by kernel_rfl) ?_
                        simp only [pickAll, pickAt, List.nil_append, List.cons_append, List.append_nil]
                        have c0 := Z38.out.c0
                        have c1 := Z38.out.c1
                        have fz := Z38.out.fz
                        have c2 : (x38.setCell ⟨gz, 0, none⟩ (.int .i64 b1)).cell? ⟨gz, 1, none⟩ = some (.slice none 0 0) := (Z38.out.set0 _).c1
                        have fz2 := (Z38.out.set0 (.int .i64 b1)).fz
                        have Y42 := Hid.mk7 (Y38.out.set_del Z38.out (.int .i64 b1) (.slice ya zs2.length yc))
                        have Z42 := Hid.mk7 (Z38.out.set (.int .i64 b1) (.slice ya zs2.length yc))
                        have bb42 : Hid (RowKit.Below wj.heap.size wj ((x38.setCell ⟨gz, 0, none⟩ (.int .i64 b1)).setCell ⟨gz, 1, none⟩ (.slice ya zs2.length yc))) := below_set2 bb38.out hgz _ _
                        go_wp2
                        clear c0 c1 c2 fz fz2
                        generalize ((x38.setCell ⟨gz, 0, none⟩ (.int .i64 b1)).setCell ⟨gz, 1, none⟩ (.slice ya zs2.length yc)) = x42 at *
                        refine anyNext_mk ⟨⟨_, HRD.out.later bb42.out⟩, rfl⟩ ?_
                        refine anyC_pick1 12 (by kernel_rfl) (by kernel_rfl) ?_
                        simp only [pickAll, pickAt, List.nil_append, List.cons_append, List.append_nil]
                        go_wp2
                        refine anyNext_last (anyC_done (by kernel_rfl) ?_)
                        go_wp2
                        go_meet
                        exact ⟨gz, _, rfl, rfl, Z42, Y42, bb42⟩
                      · simp only [pickAll, pickAt, List.nil_append, List.cons_append, List.append_nil]
                        have c0 := Z38.out.c0
                        have c1 := Z38.out.c1
                        have fz := Z38.out.fz
                        have c2 : (x38.setCell ⟨gz, 0, none⟩ (.int .i64 b1)).cell? ⟨gz, 1, none⟩ = some (.slice none 0 0) := (Z38.out.set0 _).c1
                        have fz2 := (Z38.out.set0 (.int .i64 b1)).fz
                        have Y44 := Hid.mk7 (Y38.out.set_del Z38.out (.int .i64 b1) (.slice ya zs2.length yc))
                        have Z44 := Hid.mk7 (Z38.out.set (.int .i64 b1) (.slice ya zs2.length yc))
                        have bb44 : Hid (RowKit.Below wj.heap.size wj ((x38.setCell ⟨gz, 0, none⟩ (.int .i64 b1)).setCell ⟨gz, 1, none⟩ (.slice ya zs2.length yc))) := below_set2 bb38.out hgz _ _
                        go_wp2
                        clear c0 c1 c2 fz fz2
                        generalize ((x38.setCell ⟨gz, 0, none⟩ (.int .i64 b1)).setCell ⟨gz, 1, none⟩ (.slice ya zs2.length yc)) = x44 at *
                        refine anyNext_mk ⟨⟨_, HRD.out.later bb44.out⟩, rfl⟩ ?_
                        refine anyC_pick1 9 (by kernel_rfl) (by kernel_rfl) ?_
                        simp only [pickAll, pickAt, List.nil_append, List.cons_append, List.append_nil]
                        go_wp2
                        refine anyNext_mk ⟨⟨_, HRD.out.later bb44.out⟩, rfl⟩ ?_
                        refine anyC_pick1 12 (by kernel_rfl) (by kernel_rfl) ?_
                        simp only [pickAll, pickAt, List.nil_append, List.cons_append, List.append_nil]
                        go_wp2
                        refine anyNext_last (anyC_done (by kernel_rfl) ?_)
                        go_wp2
                        go_meet
                        exact ⟨gz, _, rfl, rfl, Z44, Y44, bb44⟩
                    · simp only [pickAll, pickAt, List.nil_append, List.cons_append, List.append_nil]
                      go_wp2
                      refine anyNext_mk ⟨⟨_, HRD.out.later bb38.out⟩, rfl⟩ ?_
                      refine anyC_pick1 8 (by kernel_rfl) (by kernel_rfl) ?_
                      simp only [pickAll, pickAt, List.nil_append, List.cons_append, List.append_nil]
                      go_wp2
                      refine anyNext_mk ⟨⟨_, HRD.out.later bb38.out⟩, rfl⟩ ?_
                      refine anyC_pick1 11 (by kernel_rfl) (by kernel_rfl) ?_
                      simp only [pickAll, pickAt, List.nil_append, List.cons_append, List.append_nil]
                      have c0 := Z38.out.c0
                      have c1 := Z38.out.c1
                      have fz := Z38.out.fz
                      have c2 : (x38.setCell ⟨gz, 0, none⟩ (.int .i64 b1)).cell? ⟨gz, 1, none⟩ = some (.slice none 0 0) := (Z38.out.set0 _).c1
                      have fz2 := (Z38.out.set0 (.int .i64 b1)).fz
                      have Y49 := Hid.mk7 (Y38.out.set_del Z38.out (.int .i64 b1) (.slice ya zs2.length yc))
                      have Z49 := Hid.mk7 (Z38.out.set (.int .i64 b1) (.slice ya zs2.length yc))
                      have bb49 : Hid (RowKit.Below wj.heap.size wj ((x38.setCell ⟨gz, 0, none⟩ (.int .i64 b1)).setCell ⟨gz, 1, none⟩ (.slice ya zs2.length yc))) := below_set2 bb38.out hgz _ _
                      go_wp2
                      clear c0 c1 c2 fz fz2
                      generalize ((x38.setCell ⟨gz, 0, none⟩ (.int .i64 b1)).setCell ⟨gz, 1, none⟩ (.slice ya zs2.length yc)) = x49 at *
                      refine anyNext_mk ⟨⟨_, HRD.out.later bb49.out⟩, rfl⟩ ?_
                      refine anyC_pick1 12 (by kernel_rfl) (by kernel_rfl) ?_
                      simp only [pickAll, pickAt, List.nil_append, List.cons_append, List.append_nil]
                      go_wp2
                      refine anyNext_last (anyC_done (by kernel_rfl) ?_)
                      go_wp2
                      go_meet
                      exact ⟨gz, _, rfl, rfl, Z49, Y49, bb49⟩
                · simp only [pickAll, pickAt, List.nil_append, List.cons_append, List.append_nil]
                  have C51 := Hid.mk7 (C2.out.later (below_newE (RowKit.Below.refl _ _) (.cells #[.int .i64 0, .slice none 0 0] 24)))
                  have Z51 : Hid (Rd (x2.alloc (.cells #[.int .i64 0, .slice none 0 0] 24)) x2.heap.size (.int .i64 0) (.slice none 0 0)) := Rd.new _ _ _
                  have bb51 : Hid (RowKit.Below wj.heap.size wj (x2.alloc (.cells #[.int .i64 0, .slice none 0 0] 24))) := bb2.out.alloc bb2.out.size _
                  have hgz := bb2.out.size
                  go_wp2
                  generalize (x2.alloc (.cells #[.int .i64 0, .slice none 0 0] 24)) = x51 at *
                  generalize x2.heap.size = gz at *
                  refine anyNext_mk ⟨⟨_, HRD.out.later bb51.out⟩, rfl⟩ ?_
                  refine anyC_pick1 6 (by kernel_rfl) (by kernel_rfl) ?_
                  simp only [pickAll, pickAt, List.nil_append, List.cons_append, List.append_nil]
                  go_wp2_with fail
                  refine (HTO.out _ _ C51.out).mono ?_
                  rintro e x52 ⟨yv, rfl, hy, bz⟩
                  obtain ⟨ya, yc, rfl, _, _, _⟩ := id hy
                  have Z52 := Hid.mk7 (Z51.out.later bz)
                  have Y52 := Hid.mk7 hy
                  have bb52 : Hid (RowKit.Below wj.heap.size wj x52) := bb51.out.trans (bz.mono bb51.out.size)
                  clear bz hy
                  go_wp2
                  refine anyNext_mk ⟨⟨_, HRD.out.later bb52.out⟩, rfl⟩ ?_
                  refine anyC_pick1 7 (by kernel_rfl) (by kernel_rfl) ?_
                  simp only [pickAll, pickAt, List.nil_append, List.cons_append, List.append_nil]
                  go_wp2
                  refine anyNext_mk ⟨⟨_, HRD.out.later bb52.out⟩, rfl⟩ ?_
                  refine anyC_pick2 8 9 (by kernel_rfl) (by kernel_rfl) (by kernel_rfl) ?_ ?_
                  · simp only [pickAll, pickAt, List.nil_append, List.cons_append, List.append_nil]
                    go_wp2
                    refine anyNext_mk ⟨⟨_, HRD.out.later bb52.out⟩, rfl⟩ ?_
                    refine anyC_pick2 9 11 (by kernel_rfl) (by kernel_rfl) (by kernel_rfl) ?_ ?_
                    · simp only [pickAll, pickAt, List.nil_append, List.cons_append, List.append_nil]
                      go_wp2
                      refine anyNext_mk ⟨⟨_, HRD.out.later bb52.out⟩, rfl⟩ ?_
                      refine anyC_pick1 11 (by kernel_rfl) (by kernel_rfl) ?_
                      simp only [pickAll, pickAt, List.nil_append, List.cons_append, List.append_nil]
                      have c0 := Z52.out.c0
                      have c1 := Z52.out.c1
                      have fz := Z52.out.fz
                      have c2 : (x52.setCell ⟨gz, 0, none⟩ (.int .i64 b1)).cell? ⟨gz, 1, none⟩ = some (.slice none 0 0) := (Z52.out.set0 _).c1
                      have fz2 := (Z52.out.set0 (.int .i64 b1)).fz
                      have Y56 := Hid.mk7 (Y52.out.set_del Z52.out (.int .i64 b1) (.slice ya zs2.length yc))
                      have Z56 := Hid.mk7 (Z52.out.set (.int .i64 b1) (.slice ya zs2.length yc))
                      have bb56 : Hid (RowKit.Below wj.heap.size wj ((x52.setCell ⟨gz, 0, none⟩ (.int .i64 b1)).setCell ⟨gz, 1, none⟩ (.slice ya zs2.length yc))) := below_set2 bb52.out hgz _ _
                      go_wp2
                      clear c0 c1 c2 fz fz2
                      generalize ((x52.setCell ⟨gz, 0, none⟩ (.int .i64 b1)).setCell ⟨gz, 1, none⟩ (.slice ya zs2.length yc)) = x56 at *
                      refine anyNext_mk ⟨⟨_, HRD.out.later bb56.out⟩, rfl⟩ ?_
                      refine anyC_pick1 12 (by kernel_rfl) (by kernel_rfl) ?_
                      simp only [pickAll, pickAt, List.nil_append, List.cons_append, List.append_nil]
                      go_wp2
                      refine anyNext_last (anyC_done (by kernel_rfl) ?_)
                      go_wp2
                      go_meet
                      exact ⟨gz, _, rfl, rfl, Z56, Y56, bb56⟩
                    · simp only [pickAll, pickAt, List.nil_append, List.cons_append, List.append_nil]
                      have c0 := Z52.out.c0
                      have c1 := Z52.out.c1
                      have fz := Z52.out.fz
                      have c2 : (x52.setCell ⟨gz, 0, none⟩ (.int .i64 b1)).cell? ⟨gz, 1, none⟩ = some (.slice none 0 0) := (Z52.out.set0 _).c1
                      have fz2 := (Z52.out.set0 (.int .i64 b1)).fz
                      have Y58 := Hid.mk7 (Y52.out.set_del Z52.out (.int .i64 b1) (.slice ya zs2.length yc))
                      have Z58 := Hid.mk7 (Z52.out.set (.int .i64 b1) (.slice ya zs2.length yc))
                      have bb58 : Hid (RowKit.Below wj.heap.size wj ((x52.setCell ⟨gz, 0, none⟩ (.int .i64 b1)).setCell ⟨gz, 1, none⟩ (.slice ya zs2.length yc))) := below_set2 bb52.out hgz _ _
                      go_wp2
                      clear c0 c1 c2 fz fz2
                      generalize ((x52.setCell ⟨gz, 0, none⟩ (.int .i64 b1)).setCell ⟨gz, 1, none⟩ (.slice ya zs2.length yc)) = x58 at *
                      refine anyNext_mk ⟨⟨_, HRD.out.later bb58.out⟩, rfl⟩ ?_
                      refine anyC_pick1 9 (by kernel_rfl) (by kernel_rfl) ?_
                      simp only [pickAll, pickAt, List.nil_append, List.cons_append, List.append_nil]
                      go_wp2
                      refine anyNext_mk ⟨⟨_, HRD.out.later bb58.out⟩, rfl⟩ ?_
                      refine anyC_pick1 12 (by kernel_rfl) (by kernel_rfl) ?_
                      simp only [pickAll, pickAt, List.nil_append, List.cons_append, List.append_nil]
                      go_wp2
                      refine anyNext_last (anyC_done (by kernel_rfl) ?_)
                      go_wp2
                      go_meet
                      exact ⟨gz, _, rfl, rfl, Z58, Y58, bb58⟩
                  · simp only [pickAll, pickAt, List.nil_append, List.cons_append, List.append_nil]
                    go_wp2
                    refine anyNext_mk ⟨⟨_, HRD.out.later bb52.out⟩, rfl⟩ ?_
                    refine anyC_pick1 8 (by kernel_rfl) (by kernel_rfl) ?_
                    simp only [pickAll, pickAt, List.nil_append, List.cons_append, List.append_nil]
                    go_wp2
                    refine anyNext_mk ⟨⟨_, HRD.out.later bb52.out⟩, rfl⟩ ?_
                    refine anyC_pick1 11 (by kernel_rfl) (by kernel_rfl) ?_
                    simp only [pickAll, pickAt, List.nil_append, List.cons_append, List.append_nil]
                    have c0 := Z52.out.c0
                    have c1 := Z52.out.c1
                    have fz := Z52.out.fz
                    have c2 : (x52.setCell ⟨gz, 0, none⟩ (.int .i64 b1)).cell? ⟨gz, 1, none⟩ = some (.slice none 0 0) := (Z52.out.set0 _).c1
                    have fz2 := (Z52.out.set0 (.int .i64 b1)).fz
                    have Y63 := Hid.mk7 (Y52.out.set_del Z52.out (.int .i64 b1) (.slice ya zs2.length yc))
                    have Z63 := Hid.mk7 (Z52.out.set (.int .i64 b1) (.slice ya zs2.length yc))
                    have bb63 : Hid (RowKit.Below wj.heap.size wj ((x52.setCell ⟨gz, 0, none⟩ (.int .i64 b1)).setCell ⟨gz, 1, none⟩ (.slice ya zs2.length yc))) := below_set2 bb52.out hgz _ _
                    go_wp2
                    clear c0 c1 c2 fz fz2
                    generalize ((x52.setCell ⟨gz, 0, none⟩ (.int .i64 b1)).setCell ⟨gz, 1, none⟩ (.slice ya zs2.length yc)) = x63 at *
                    refine anyNext_mk ⟨⟨_, HRD.out.later bb63.out⟩, rfl⟩ ?_
                    refine anyC_pick1 12 (by kernel_rfl) (by kernel_rfl) ?_
                    simp only [pickAll, pickAt, List.nil_append, List.cons_append, List.append_nil]
                    go_wp2
                    refine anyNext_last (anyC_done (by kernel_rfl) ?_)
                    go_wp2
                    go_meet
                    exact ⟨gz, _, rfl, rfl, Z63, Y63, bb63⟩
              · simp only [pickAll, pickAt, List.nil_append, List.cons_append, List.append_nil]
                have C65 := Hid.mk7 (C1.out.later (below_newE (RowKit.Below.refl _ _) (.cells #[.int .i64 0, .slice none 0 0] 24)))
                have Z65 : Hid (Rd (x1.alloc (.cells #[.int .i64 0, .slice none 0 0] 24)) x1.heap.size (.int .i64 0) (.slice none 0 0)) := Rd.new _ _ _
                have bb65 : Hid (RowKit.Below wj.heap.size wj (x1.alloc (.cells #[.int .i64 0, .slice none 0 0] 24))) := bb1.out.alloc bb1.out.size _
                have hgz := bb1.out.size
                go_wp2
                generalize (x1.alloc (.cells #[.int .i64 0, .slice none 0 0] 24)) = x65 at *
                generalize x1.heap.size = gz at *
                refine anyNext_mk ⟨⟨_, HRD.out.later bb65.out⟩, rfl⟩ ?_
                refine anyC_pick1 5 (by kernel_rfl) (by kernel_rfl) ?_
                simp only [pickAll, pickAt, List.nil_append, List.cons_append, List.append_nil]
                go_wp2_with fail
                refine (HRJ.out _ _ C65.out (HL.out.later bb65.out)).mono ?_
                rintro e x66 ⟨cv, rfl, hy, bz⟩
                have Z66 := Hid.mk7 (Z65.out.later bz)
                have C66 := Hid.mk7 hy
                have bb66 : Hid (RowKit.Below wj.heap.size wj x66) := bb65.out.trans (bz.mono bb65.out.size)
                clear bz hy
                go_wp2
                refine anyNext_mk ⟨⟨_, HRD.out.later bb66.out⟩, rfl⟩ ?_
                refine anyC_pick1 6 (by kernel_rfl) (by kernel_rfl) ?_
                simp only [pickAll, pickAt, List.nil_append, List.cons_append, List.append_nil]
                go_wp2_with fail
                refine (HTO.out _ _ C66.out).mono ?_
                rintro e x67 ⟨yv, rfl, hy, bz⟩
                obtain ⟨ya, yc, rfl, _, _, _⟩ := id hy
                have Z67 := Hid.mk7 (Z66.out.later bz)
                have Y67 := Hid.mk7 hy
                have bb67 : Hid (RowKit.Below wj.heap.size wj x67) := bb66.out.trans (bz.mono bb66.out.size)
                clear bz hy
                go_wp2
                refine anyNext_mk ⟨⟨_, HRD.out.later bb67.out⟩, rfl⟩ ?_
                refine anyC_pick1 7 (by kernel_rfl) (by kernel_rfl) ?_
                simp only [pickAll, pickAt, List.nil_append, List.cons_append, List.append_nil]
                go_wp2
                refine anyNext_mk ⟨⟨_, HRD.out.later bb67.out⟩, rfl⟩ ?_
                refine anyC_pick2 8 9 (by kernel_rfl) (by kernel_rfl) (by kernel_rfl) ?_ ?_
                · simp only [pickAll, pickAt, List.nil_append, List.cons_append, List.append_nil]
                  go_wp2
                  refine anyNext_mk ⟨⟨_, HRD.out.later bb67.out⟩, rfl⟩ ?_
                  refine anyC_pick2 9 11 (by kernel_rfl) (by kernel_rfl) (by kernel_rfl) ?_ ?_
                  · simp only [pickAll, pickAt, List.nil_append, List.cons_append, List.append_nil]
                    go_wp2
                    refine anyNext_mk ⟨⟨_, HRD.out.later bb67.out⟩, rfl⟩ ?_
                    refine anyC_pick1 11 (by kernel_rfl) (by kernel_rfl) ?_
                    simp only [pickAll, pickAt, List.nil_append, List.cons_append, List.append_nil]
                    have c0 := Z67.out.c0
                    have c1 := Z67.out.c1
                    have fz := Z67.out.fz
                    have c2 : (x67.setCell ⟨gz, 0, none⟩ (.int .i64 b1)).cell? ⟨gz, 1, none⟩ = some (.slice none 0 0) := (Z67.out.set0 _).c1
                    have fz2 := (Z67.out.set0 (.int .i64 b1)).fz
                    have Y71 := Hid.mk7 (Y67.out.set_del Z67.out (.int .i64 b1) (.slice ya zs2.length yc))
                    have Z71 := Hid.mk7 (Z67.out.set (.int .i64 b1) (.slice ya zs2.length yc))
                    have bb71 : Hid (RowKit.Below wj.heap.size wj ((x67.setCell ⟨gz, 0, none⟩ (.int .i64 b1)).setCell ⟨gz, 1, none⟩ (.slice ya zs2.length yc))) := below_set2 bb67.out hgz _ _
                    go_wp2
                    clear c0 c1 c2 fz fz2
                    generalize ((x67.setCell ⟨gz, 0, none⟩ (.int .i64 b1)).setCell ⟨gz, 1, none⟩ (.slice ya zs2.length yc)) = x71 at *
                    refine anyNext_mk ⟨⟨_, HRD.out.later bb71.out⟩, rfl⟩ ?_
                    refine anyC_pick1 12 (by kernel_rfl) (by kernel_rfl) ?_
                    simp only [pickAll, pickAt, List.nil_append, List.cons_append, List.append_nil]
                    go_wp2
                    refine anyNext_last (anyC_done (by kernel_rfl) ?_)
                    go_wp2
                    go_meet
                    exact ⟨gz, _, rfl, rfl, Z71, Y71, bb71⟩
                  · simp only [pickAll, pickAt, List.nil_append, List.cons_append, List.append_nil]
                    have c0 := Z67.out.c0
                    have c1 := Z67.out.c1
                    have fz := Z67.out.fz
                    have c2 : (x67.setCell ⟨gz, 0, none⟩ (.int .i64 b1)).cell? ⟨gz, 1, none⟩ = some (.slice none 0 0) := (Z67.out.set0 _).c1
                    have fz2 := (Z67.out.set0 (.int .i64 b1)).fz
                    have Y73 := Hid.mk7 (Y67.out.set_del Z67.out (.int .i64 b1) (.slice ya zs2.length yc))
                    have Z73 := Hid.mk7 (Z67.out.set (.int .i64 b1) (.slice ya zs2.length yc))
                    have bb73 : Hid (RowKit.Below wj.heap.size wj ((x67.setCell ⟨gz, 0, none⟩ (.int .i64 b1)).setCell ⟨gz, 1, none⟩ (.slice ya zs2.length yc))) := below_set2 bb67.out hgz _ _
                    go_wp2
                    clear c0 c1 c2 fz fz2
                    generalize ((x67.setCell ⟨gz, 0, none⟩ (.int .i64 b1)).setCell ⟨gz, 1, none⟩ (.slice ya zs2.length yc)) = x73 at *
                    refine anyNext_mk ⟨⟨_, HRD.out.later bb73.out⟩, rfl⟩ ?_
                    refine anyC_pick1 9 (by kernel_rfl) (by kernel_rfl) ?_
                    simp only [pickAll, pickAt, List.nil_append, List.cons_append, List.append_nil]
                    go_wp2
                    refine anyNext_mk ⟨⟨_, HRD.out.later bb73.out⟩, rfl⟩ ?_
                    refine anyC_pick1 12 (by kernel_rfl) (by kernel_rfl) ?_
                    simp only [pickAll, pickAt, List.nil_append, List.cons_append, List.append_nil]
                    go_wp2
                    refine anyNext_last (anyC_done (by kernel_rfl) ?_)
                    go_wp2
                    go_meet
                    exact ⟨gz, _, rfl, rfl, Z73, Y73, bb73⟩
                · simp only [pickAll, pickAt, List.nil_append, List.cons_append, List.append_nil]
                  go_wp2
                  refine anyNext_mk ⟨⟨_, HRD.out.later bb67.out⟩, rfl⟩ ?_
                  refine anyC_pick1 8 (by kernel_rfl) (by kernel_rfl) ?_
                  simp only [pickAll, pickAt, List.nil_append, List.cons_append, List.append_nil]
                  go_wp2
                  refine anyNext_mk ⟨⟨_, HRD.out.later bb67.out⟩, rfl⟩ ?_
                  refine anyC_pick1 11 (by kernel_rfl) (by kernel_rfl) ?_
                  simp only [pickAll, pickAt, List.nil_append, List.cons_append, List.append_nil]
                  have c0 := Z67.out.c0
                  have c1 := Z67.out.c1
                  have fz := Z67.out.fz
                  have c2 : (x67.setCell ⟨gz, 0, none⟩ (.int .i64 b1)).cell? ⟨gz, 1, none⟩ = some (.slice none 0 0) := (Z67.out.set0 _).c1
                  have fz2 := (Z67.out.set0 (.int .i64 b1)).fz
                  have Y78 := Hid.mk7 (Y67.out.set_del Z67.out (.int .i64 b1) (.slice ya zs2.length yc))
                  have Z78 := Hid.mk7 (Z67.out.set (.int .i64 b1) (.slice ya zs2.length yc))
                  have bb78 : Hid (RowKit.Below wj.heap.size wj ((x67.setCell ⟨gz, 0, none⟩ (.int .i64 b1)).setCell ⟨gz, 1, none⟩ (.slice ya zs2.length yc))) := below_set2 bb67.out hgz _ _
                  go_wp2
                  clear c0 c1 c2 fz fz2
                  generalize ((x67.setCell ⟨gz, 0, none⟩ (.int .i64 b1)).setCell ⟨gz, 1, none⟩ (.slice ya zs2.length yc)) = x78 at *
                  refine anyNext_mk ⟨⟨_, HRD.out.later bb78.out⟩, rfl⟩ ?_
                  refine anyC_pick1 12 (by kernel_rfl) (by kernel_rfl) ?_
                  simp only [pickAll, pickAt, List.nil_append, List.cons_append, List.append_nil]
                  go_wp2
                  refine anyNext_last (anyC_done (by kernel_rfl) ?_)
                  go_wp2
                  go_meet
                  exact ⟨gz, _, rfl, rfl, Z78, Y78, bb78⟩
            · simp only [pickAll, pickAt, List.nil_append, List.cons_append, List.append_nil]
              have Z80 : Hid (Rd (x0.alloc (.cells #[.int .i64 0, .slice none 0 0] 24)) x0.heap.size (.int .i64 0) (.slice none 0 0)) := Rd.new _ _ _
              have bb80 : Hid (RowKit.Below wj.heap.size wj (x0.alloc (.cells #[.int .i64 0, .slice none 0 0] 24))) := bb0.out.alloc bb0.out.size _
              have hgz := bb0.out.size
              go_wp2
              generalize (x0.alloc (.cells #[.int .i64 0, .slice none 0 0] 24)) = x80 at *
              generalize x0.heap.size = gz at *
              refine anyNext_mk ⟨⟨_, HRD.out.later bb80.out⟩, rfl⟩ ?_
              refine anyC_pick1 3 (by kernel_rfl) (by kernel_rfl) ?_
              simp only [pickAll, pickAt, List.nil_append, List.cons_append, List.append_nil]
              go_wp2_with fail
              refine (HCE.out _ (HE.out.later bb80.out)).mono ?_
              rintro e x81 ⟨cv, rfl, hy, bz⟩
              have Z81 := Hid.mk7 (Z80.out.later bz)
              have C81 := Hid.mk7 hy
              have bb81 : Hid (RowKit.Below wj.heap.size wj x81) := bb80.out.trans (bz.mono bb80.out.size)
              clear bz hy
              go_wp2
              refine anyNext_mk ⟨⟨_, HRD.out.later bb81.out⟩, rfl⟩ ?_
              refine anyC_pick1 5 (by kernel_rfl) (by kernel_rfl) ?_
              simp only [pickAll, pickAt, List.nil_append, List.cons_append, List.append_nil]
              go_wp2_with fail
              refine (HRJ.out _ _ C81.out (HL.out.later bb81.out)).mono ?_
              rintro e x82 ⟨cv, rfl, hy, bz⟩
              have Z82 := Hid.mk7 (Z81.out.later bz)
              have C82 := Hid.mk7 hy
              have bb82 : Hid (RowKit.Below wj.heap.size wj x82) := bb81.out.trans (bz.mono bb81.out.size)
              clear bz hy
              go_wp2
              refine anyNext_mk ⟨⟨_, HRD.out.later bb82.out⟩, rfl⟩ ?_
              refine anyC_pick1 6 (by kernel_rfl) (by kernel_rfl) ?_
              simp only [pickAll, pickAt, List.nil_append, List.cons_append, List.append_nil]
              go_wp2_with fail
              refine (HTO.out _ _ C82.out).mono ?_
              rintro e x83 ⟨yv, rfl, hy, bz⟩
              obtain ⟨ya, yc, rfl, _, _, _⟩ := id hy
              have Z83 := Hid.mk7 (Z82.out.later bz)
              have Y83 := Hid.mk7 hy
              have bb83 : Hid (RowKit.Below wj.heap.size wj x83) := bb82.out.trans (bz.mono bb82.out.size)
              clear bz hy
              go_wp2
              refine anyNext_mk ⟨⟨_, HRD.out.later bb83.out⟩, rfl⟩ ?_
              refine anyC_pick1 7 (by kernel_rfl) (by kernel_rfl) ?_
              simp only [pickAll, pickAt, List.nil_append, List.cons_append, List.append_nil]
              go_wp2
              refine anyNext_mk ⟨⟨_, HRD.out.later bb83.out⟩, rfl⟩ ?_
              refine anyC_pick2 8 9 (by kernel_rfl) (by kernel_rfl) (by kernel_rfl) ?_ ?_
              · simp only [pickAll, pickAt, List.nil_append, List.cons_append, List.append_nil]
                go_wp2
                refine anyNext_mk ⟨⟨_, HRD.out.later bb83.out⟩, rfl⟩ ?_
                refine anyC_pick2 9 11 (by kernel_rfl) (by kernel_rfl) (by kernel_rfl) ?_ ?_
                · simp only [pickAll, pickAt, List.nil_append, List.cons_append, List.append_nil]
                  go_wp2
                  refine anyNext_mk ⟨⟨_, HRD.out.later bb83.out⟩, rfl⟩ ?_
                  refine anyC_pick1 11 (by kernel_rfl) (by kernel_rfl) ?_
                  simp only [pickAll, pickAt, List.nil_append, List.cons_append, List.append_nil]
                  have c0 := Z83.out.c0
                  have c1 := Z83.out.c1
                  have fz := Z83.out.fz
                  have c2 : (x83.setCell ⟨gz, 0, none⟩ (.int .i64 b1)).cell? ⟨gz, 1, none⟩ = some (.slice none 0 0) := (Z83.out.set0 _).c1
                  have fz2 := (Z83.out.set0 (.int .i64 b1)).fz
                  have Y87 := Hid.mk7 (Y83.out.set_del Z83.out (.int .i64 b1) (.slice ya zs2.length yc))
                  have Z87 := Hid.mk7 (Z83.out.set (.int .i64 b1) (.slice ya zs2.length yc))
                  have bb87 : Hid (RowKit.Below wj.heap.size wj ((x83.setCell ⟨gz, 0, none⟩ (.int .i64 b1)).setCell ⟨gz, 1, none⟩ (.slice ya zs2.length yc))) := below_set2 bb83.out hgz _ _
                  go_wp2
                  clear c0 c1 c2 fz fz2
                  generalize ((x83.setCell ⟨gz, 0, none⟩ (.int .i64 b1)).setCell ⟨gz, 1, none⟩ (.slice ya zs2.length yc)) = x87 at *
                  refine anyNext_mk ⟨⟨_, HRD.out.later bb87.out⟩, rfl⟩ ?_
                  refine anyC_pick1 12 (by kernel_rfl) (by kernel_rfl) ?_
                  simp only [pickAll, pickAt, List.nil_append, List.cons_append, List.append_nil]
                  go_wp2
                  refine anyNext_last (anyC_done (by kernel_rfl) ?_)
                  go_wp2
                  go_meet
                  exact ⟨gz, _, rfl, rfl, Z87, Y87, bb87⟩
                · simp only [pickAll, pickAt, List.nil_append, List.cons_append, List.append_nil]
                  have c0 := Z83.out.c0
                  have c1 := Z83.out.c1
                  have fz := Z83.out.fz
                  have c2 : (x83.setCell ⟨gz, 0, none⟩ (.int .i64 b1)).cell? ⟨gz, 1, none⟩ = some (.slice none 0 0) := (Z83.out.set0 _).c1
                  have fz2 := (Z83.out.set0 (.int .i64 b1)).fz
                  have Y89 := Hid.mk7 (Y83.out.set_del Z83.out (.int .i64 b1) (.slice ya zs2.length yc))
                  have Z89 := Hid.mk7 (Z83.out.set (.int .i64 b1) (.slice ya zs2.length yc))
                  have bb89 : Hid (RowKit.Below wj.heap.size wj ((x83.setCell ⟨gz, 0, none⟩ (.int .i64 b1)).setCell ⟨gz, 1, none⟩ (.slice ya zs2.length yc))) := below_set2 bb83.out hgz _ _
                  go_wp2
                  clear c0 c1 c2 fz fz2
                  generalize ((x83.setCell ⟨gz, 0, none⟩ (.int .i64 b1)).setCell ⟨gz, 1, none⟩ (.slice ya zs2.length yc)) = x89 at *
                  refine anyNext_mk ⟨⟨_, HRD.out.later bb89.out⟩, rfl⟩ ?_
                  refine anyC_pick1 9 (by kernel_rfl) (by kernel_rfl) ?_
                  simp only [pickAll, pickAt, List.nil_append, List.cons_append, List.append_nil]
                  go_wp2
                  refine anyNext_mk ⟨⟨_, HRD.out.later bb89.out⟩, rfl⟩ ?_
                  refine anyC_pick1 12 (by kernel_rfl) (by kernel_rfl) ?_
                  simp only [pickAll, pickAt, List.nil_append, List.cons_append, List.append_nil]
                  go_wp2
                  refine anyNext_last (anyC_done (by kernel_rfl) ?_)
                  go_wp2
                  go_meet
                  exact ⟨gz, _, rfl, rfl, Z89, Y89, bb89⟩
              · simp only [pickAll, pickAt, List.nil_append, List.cons_append, List.append_nil]
                go_wp2
                refine anyNext_mk ⟨⟨_, HRD.out.later bb83.out⟩, rfl⟩ ?_
                refine anyC_pick1 8 (by kernel_rfl) (by kernel_rfl) ?_
                simp only [pickAll, pickAt, List.nil_append, List.cons_append, List.append_nil]
                go_wp2
                refine anyNext_mk ⟨⟨_, HRD.out.later bb83.out⟩, rfl⟩ ?_
                refine anyC_pick1 11 (by kernel_rfl) (by kernel_rfl) ?_
                simp only [pickAll, pickAt, List.nil_append, List.cons_append, List.append_nil]
                have c0 := Z83.out.c0
                have c1 := Z83.out.c1
                have fz := Z83.out.fz
                have c2 : (x83.setCell ⟨gz, 0, none⟩ (.int .i64 b1)).cell? ⟨gz, 1, none⟩ = some (.slice none 0 0) := (Z83.out.set0 _).c1
                have fz2 := (Z83.out.set0 (.int .i64 b1)).fz
                have Y94 := Hid.mk7 (Y83.out.set_del Z83.out (.int .i64 b1) (.slice ya zs2.length yc))
                have Z94 := Hid.mk7 (Z83.out.set (.int .i64 b1) (.slice ya zs2.length yc))
                have bb94 : Hid (RowKit.Below wj.heap.size wj ((x83.setCell ⟨gz, 0, none⟩ (.int .i64 b1)).setCell ⟨gz, 1, none⟩ (.slice ya zs2.length yc))) := below_set2 bb83.out hgz _ _
                go_wp2
                clear c0 c1 c2 fz fz2
                generalize ((x83.setCell ⟨gz, 0, none⟩ (.int .i64 b1)).setCell ⟨gz, 1, none⟩ (.slice ya zs2.length yc)) = x94 at *
                refine anyNext_mk ⟨⟨_, HRD.out.later bb94.out⟩, rfl⟩ ?_
                refine anyC_pick1 12 (by kernel_rfl) (by kernel_rfl) ?_
                simp only [pickAll, pickAt, List.nil_append, List.cons_append, List.append_nil]
                go_wp2
                refine anyNext_last (anyC_done (by kernel_rfl) ?_)
                go_wp2
                go_meet
                exact ⟨gz, _, rfl, rfl, Z94, Y94, bb94⟩
          case rest =>
            obtain ⟨gz, yv, rfl, rfl, RZ, HY, BB⟩ := hcut
            obtain ⟨ya, yc, rfl, _, _, _⟩ := id HY.out
            have RJ9 := Hid.mk7 (RJ28.out.later BB.out)
            have J9 := Hid.mk7 (J28.out.later BB.out)
            have G9 := Hid.mk7 (G28.out.trans (BB.out.mono G28.out.size))
            have p0 := RJ9.out.c0
            have p1 := RJ9.out.c1
            have y0 := RZ.out.c0
            have y1 := RZ.out.c1
            rcases HER.out with rfl | rfl
            · obtain ⟨rfl, rfl, hm, rfl⟩ := HZ1.out rfl
              clear HBU HTO HCE HRJ
              go_wp2_with fail
              refine (rsame_selfF (N : Int) J9.out HY.out hm).mono ?_
              rintro e wz ⟨rfl, bz⟩
              clear p0 p1 y0 y1
              have GZ := Hid.mk7 (G9.out.trans (bz.mono G9.out.size))
              go_wp2
              go_ret
              exact ⟨rfl, GZ.out⟩
            · clear HBU HTO HCE HRJ
              go_wp2
              go_ret
              exact ⟨rfl, G9.out⟩
end Go.Proofs.YtalolaajcmndeaaDoor
