/- factor's Inserted, Deleted, inserts. -/
import Derived.Test.YtalolaajcmndeaaDoorFacAdd
namespace Go.Proofs.YtalolaajcmndeaaDoor
open Go.RowKit Go.Sort
set_option linter.unusedSimpArgs false
set_option linter.unusedVariables false

theorem Re.grownF {w w' : World} {row : Option Nat} {g : Nat} {x y z : Value} (h : Re w g x y z) (hg : w.grownBy w' row) (hne : some g ≠ row) : Re w' g x y z := (hg.block g h.lt hne).trans h
theorem Tab.nuF {w : World} {tb : Nat × Nat} (h : Tab w tb) (o : Obj) : Tab (w.alloc o) tb := h.later ((Below.refl _ _).alloc (Nat.le_refl _) o)
/-- Blocks of other types lie apart. -/
theorem own_re {w : World} {B : Nat} {v : Value} {rs : List Sg} {g : Nat} {x y z : Value} (h : Own w B v rs) (r : Re w g x y z) : some g ≠ v.ownBlock := fun e => by
  rcases h.2 with ⟨h1, _⟩ | ⟨g', cap, cur, h1, _, h3, _⟩
  · rw [h1] at e; cases e
  · rw [h1] at e
    obtain rfl : g = g' := Option.some.inj e
    unfold Re at r
    rw [r] at h3
    have := congrArg (fun o => match o with | some (Obj.cells _ t _) => t | _ => 0) h3
    simp at this
theorem own_blk {w : World} {B : Nat} {v : Value} {rs : List Sg} (h : Own w B v rs) : some w.heap.size ≠ v.ownBlock := fun e => by
  have := (h.lt _ e.symm).2
  omega
theorem Own.allocF {w : World} {B : Nat} {v : Value} {rs : List Sg} (h : Own w B v rs) (o : Obj) : Own (w.alloc o) B v rs := World.ownsRow.alloc h o
/-- What Inserted's loop hands on. -/
structure In12 (es : List El) (W wr : World) (k : Nat) (rv : Value) (A : List Int) : Prop where
  own : Own wr W.heap.size rv (rle A)
  eq : insL es = A ++ insL (es.drop k)
  be : Below W.heap.size W wr
theorem In12.len {es : List El} {W wr : World} {k : Nat} {rv : Value} {A : List Int} (h : In12 es W wr k rv A) (ho : Ok8 (insL es)) : A.length ≤ 20000 := by
  have h1 := congrArg List.length h.eq
  have h2 := ho.1
  rw [List.length_append] at h1
  omega
structure De12 (base : Int) (es : List El) (W wr : World) (k : Nat) (rv : Value) (en : Int) (A : List Int) : Prop where
  own : Own wr W.heap.size rv (rle A)
  eq : gon base 0 es = A ++ gon base en (es.drop k)
  nm : ∃ q, Nm base en q (es.drop k)
  en : 0 ≤ en ∧ en ≤ base
  be : Below W.heap.size W wr
theorem De12.len {base : Int} {es : List El} {W wr : World} {k : Nat} {rv : Value} {en : Int} {A : List Int} (h : De12 base es W wr k rv en A) (ho : Ok8 (gon base 0 es)) : A.length ≤ 20000 := by
  have h1 := congrArg List.length h.eq
  have h2 := ho.1
  rw [List.length_append] at h1
  omega
theorem of_few {w : World} {v : Value} {O : List Int} (h : SgAt w v (rle O)) (ho : Ok8 O) (hr : (rle O).length ≤ 200) : Calls Tryd.prog 19 #[v] w fun e w' => ∃ p, e = .returned (.tuple #[p, .int .i64 0]) ∧ Sub w' p O ∧ Below w.heap.size w w' := by
  refine (of_any8 h ho).mono ?_
  rintro e w' ⟨⟨hn, _⟩ | ⟨_, p, he, hs⟩, b⟩
  · omega
  · exact ⟨p, he, hs, b⟩
set_option maxHeartbeats 1000000 in
set_option maxRecDepth 100000 in
theorem inserted_no {w : World} {v : Value} {es : List El} (base : Int) (tb : Nat × Nat) (hi : isB base es = false) (hsm : Sm es 20000) (h : ElAt w v es) (hT : Tab w tb) :
    Calls Tryd.prog 11 #[.agg #[.int .i64 base, v]] w fun e w' => e = .returned (.tuple #[.pointer none, .int .i64 12]) ∧ Below w.heap.size w w' := by
  have BB := Hid.mk7 (below_newE (Below.refl w.heap.size w) (.cells #[.int .i64 base, v] 24))
  have RDH := Rd.new w (.int .i64 base) v
  have HIS := Hid.mk7 (is_v hi hsm (h.alloc (.cells #[.int .i64 base, v] 24)) (hT.nuF (.cells #[.int .i64 base, v] 24)))
  have r0 := RDH.c0
  have r1 := RDH.c1
  clear h hT RDH
  go_enter Tryd.func11, Tryd.ntmps11
  go_wp2_with fail
  refine HIS.out.mono ?_
  rintro e w1 ⟨rfl, b1⟩
  have hb := BB.out.trans (b1.mono BB.out.size)
  clear r0 r1 HIS BB b1
  go_wp2
  go_ret2
  exact ⟨rfl, hb⟩
set_option maxHeartbeats 1000000 in
set_option maxRecDepth 100000 in
theorem deleted_no {w : World} {v : Value} {es : List El} (base : Int) (tb : Nat × Nat) (hi : isB base es = false) (hsm : Sm es 20000) (h : ElAt w v es) (hT : Tab w tb) :
    Calls Tryd.prog 12 #[.agg #[.int .i64 base, v]] w fun e w' => e = .returned (.tuple #[.pointer none, .int .i64 12]) ∧ Below w.heap.size w w' := by
  have BB := Hid.mk7 (below_newE (Below.refl w.heap.size w) (.cells #[.int .i64 base, v] 24))
  have RDH := Rd.new w (.int .i64 base) v
  have HIS := Hid.mk7 (is_v hi hsm (h.alloc (.cells #[.int .i64 base, v] 24)) (hT.nuF (.cells #[.int .i64 base, v] 24)))
  have r0 := RDH.c0
  have r1 := RDH.c1
  clear h hT RDH
  go_enter Tryd.func12, Tryd.ntmps12
  go_wp2_with fail
  refine HIS.out.mono ?_
  rintro e w1 ⟨rfl, b1⟩
  have hb := BB.out.trans (b1.mono BB.out.size)
  clear r0 r1 HIS BB b1
  go_wp2
  go_ret2
  exact ⟨rfl, hb⟩
set_option maxHeartbeats 4000000 in
set_option maxRecDepth 100000 in
theorem inserted_yes {w : World} {v : Value} {es : List El} (base : Int) (tb : Nat × Nat) (hi : isB base es = true) (h : ElAt w v es) (hT : Tab w tb) :
    Calls Tryd.prog 11 #[.agg #[.int .i64 base, v]] w fun e w' => ∃ p, e = .returned (.tuple #[p, .int .i64 0]) ∧ Sub w' p (insL es) ∧ Below w.heap.size w w' := by
  have hd := dl_of hi
  have BB := Hid.mk7 (below_newE (Below.refl w.heap.size w) (.cells #[.int .i64 base, v] 24))
  have RDH := Rd.new w (.int .i64 base) v
  have HV := Hid.mk7 (h.alloc (.cells #[.int .i64 base, v] 24))
  have HIS := Hid.mk7 (is_v hi hd.sm (h.alloc (.cells #[.int .i64 base, v] 24)) (hT.nuF (.cells #[.int .i64 base, v] 24)))
  have HOK := Hid.mk7 (ins_ok8 hi)
  have HRL : Hid ((rle (insL es)).length ≤ 200) := by show _ ≤ _; have := insL_rle es; have := hd.len; omega
  have HBD := Hid.mk7 hd.bd
  have HSM := Hid.mk7 hd.sm
  have r0 := RDH.c0
  have r1 := RDH.c1
  have hlen := hd.len
  clear hd h hT hi
  go_enter Tryd.func11, Tryd.ntmps11
  go_wp2_with fail
  refine HIS.out.mono ?_
  rintro e w1 ⟨rfl, b1⟩
  have hb1 := BB.out.trans (b1.mono BB.out.size)
  obtain ⟨a, cap, rfl, hcap, _, hcells⟩ := HV.out.later b1
  have HC := Hid.mk7 hcells
  have s1 := (RDH.later b1).c1
  clear r0 r1 HIS BB b1 HV RDH hcells
  go_wp2
  go_loopw [4, 13] (fun rv iv wr => ∃ (k : Nat) (A : List Int), k ≤ es.length ∧ iv = .int .i64 (k : Nat) ∧ Hid (In12 es w1 wr k rv A)) (fun _ iv _ => es.length - (intOf iv).toNat)
  case atStart => exact ⟨0, [], Nat.zero_le _, rfl, ⟨Own.nil _ _, rfl, Below.refl _ _⟩⟩
  case round =>
    obtain ⟨k, A, hk, rfl, HE⟩ := hrel
    have hb := HE.out.be
    have hsz := hb.size
    have hA := HE.out.len HOK.out
    clear s1
    by_cases hlt : k < es.length
    · obtain ⟨⟨f, t, T⟩, hr⟩ : ∃ r, es[k]? = some r := ⟨es[k], List.getElem?_eq_getElem hlt⟩
      obtain ⟨g, off, rfl, q0, q1, q2⟩ := HC.out k _ hr
      have c0 := cell_later7 hb (Nat.le_refl _) q0
      have c1 := cell_later7 hb (Nat.le_refl _) q1
      have c2 := cell_later7 hb (Nat.le_refl _) q2
      simp only at c0 c1 c2
      have hdb := HBD.out _ (List.mem_of_getElem? hr)
      have hds := HSM.out _ (List.mem_of_getElem? hr)
      simp only at hdb hds
      have HQ := Hid.mk7 (insL_step hr)
      have RC := Hid.mk7 (Re.new wr (.int .i64 f) (.int .i64 t) (.string (cacc T)))
      have HO := Hid.mk7 (HE.out.own.allocF (.cells #[.int .i64 f, .int .i64 t, .string (cacc T)] 70))
      have HNE := Hid.mk7 (own_blk HE.out.own)
      have HBX := Hid.mk7 (hb.alloc hsz (.cells #[.int .i64 f, .int .i64 t, .string (cacc T)] 70))
      have hcs : (cacc T).size = T.length := cacc_size T
      clear q0 q1 q2 hr
      generalize cacc T = s at *
      go_upto_region 7 with fail
      generalize hz : wr.heap.size = z at *
      generalize wr.alloc (.cells #[.int .i64 f, .int .i64 t, .string s] 70) = W at *
      have d0 := RC.out.c0
      have d1 := RC.out.c1
      clear c0 c1 c2
      go_wp2_with fail
      refine (fadd_any w1.heap.size u4 A (t - f) 0 W HBX.out.size (by omega) (by omega) (by omega) HO.out).mono ?_
      rintro e w2 ⟨rv2, rfl, o2, g2⟩
      have R2 := RC.out.grownF g2 HNE.out
      have O2 := Hid.mk7 o2
      have B2 := Hid.mk7 (HBX.out.grown g2 HBX.out.size (fun j hj => (HO.out.lt j hj).1))
      have e2 := R2.c2
      have hl2 : (A ++ List.replicate (t - f).toNat 0).length ≤ 100000 := by simp; omega
      obtain ⟨A2, HA2⟩ : ∃ x, Hid (A ++ List.replicate (t - f).toNat 0 = x) := ⟨_, Hid.mk7 rfl⟩
      rw [HA2.out] at O2 hl2
      clear g2 o2 R2 d0 d1 HO HBX RC
      go_wp2_with fail
      refine (fadd_any w1.heap.size rv2 A2 (T.length : Nat) 1 w2 B2.out.size (by omega) (by omega) (by omega) O2.out).mono ?_
      rintro e w3 ⟨rv3, rfl, o3, g3⟩
      have HE3 : Hid (In12 es w1 w3 (k + 1) rv3 (A2 ++ List.replicate (T.length : Int).toNat 1)) := by
        refine ⟨o3, ?_, B2.out.grown g3 B2.out.size (fun j hj => (O2.out.lt j hj).1)⟩
        rw [HE.out.eq, HQ.out, ← HA2.out]
        simp
      clear o3 g3 O2 B2 HE HQ HA2 e2
      go_wp2
      go_roundw
      case rel => exact ⟨k + 1, _, by omega, by go_num, HE3⟩
      case measure => simp [intOf]; omega
    · obtain rfl : k = es.length := by omega
      have HQ : Hid (insL es = A) := by
        show _ = _
        rw [HE.out.eq, List.drop_length]; simp [insL]
      have HOF := Hid.mk7 (of_few (O := insL es) (by rw [HQ.out]; exact HE.out.own.row) HOK.out HRL.out)
      clear HE HQ
      go_wp2_with fail
      refine HOF.out.mono ?_
      rintro e w2 ⟨p, rfl, hs, b2⟩
      have HS := Hid.mk7 hs
      have hb3 := hb1.trans ((hb.trans (b2.mono hsz)).mono hb1.size)
      clear hs b2 HOF hb
      go_wp2
      go_ret2
      exact ⟨p, rfl, HS.out, hb3⟩
set_option maxHeartbeats 4000000 in
set_option maxRecDepth 100000 in
theorem deleted_yes {w : World} {v : Value} {es : List El} (base : Int) (tb : Nat × Nat) (hi : isB base es = true) (h : ElAt w v es) (hT : Tab w tb) :
    Calls Tryd.prog 12 #[.agg #[.int .i64 base, v]] w fun e w' => ∃ p, e = .returned (.tuple #[p, .int .i64 0]) ∧ Sub w' p (gon base 0 es) ∧ Below w.heap.size w w' := by
  have hd := dl_of hi
  have BB := Hid.mk7 (below_newE (Below.refl w.heap.size w) (.cells #[.int .i64 base, v] 24))
  have RDH := Hid.mk7 (Rd.new w (.int .i64 base) v)
  have HV := Hid.mk7 (h.alloc (.cells #[.int .i64 base, v] 24))
  have HIS := Hid.mk7 (is_v hi hd.sm (h.alloc (.cells #[.int .i64 base, v] 24)) (hT.nuF (.cells #[.int .i64 base, v] 24)))
  have HOK := Hid.mk7 (gon_ok8 hi)
  have HRL : Hid ((rle (gon base 0 es)).length ≤ 200) := by show _ ≤ _; have := gon_rle (base := base) es 0; have := hd.len; omega
  have HSM := Hid.mk7 hd.sm
  have HNM := Hid.mk7 hd.nm
  have r0 := RDH.out.c0
  have r1 := RDH.out.c1
  have hlen := hd.len
  have hb00 := hd.b0
  have hb01 := hd.b1
  clear hd h hT hi
  go_enter Tryd.func12, Tryd.ntmps12
  go_wp2_with fail
  refine HIS.out.mono ?_
  rintro e w1 ⟨rfl, b1⟩
  have hb1 := BB.out.trans (b1.mono BB.out.size)
  obtain ⟨a, cap, rfl, hcap, _, hcells⟩ := HV.out.later b1
  have HC := Hid.mk7 hcells
  have RD1 := Hid.mk7 (RDH.out.later b1)
  have s0 := RD1.out.c0
  have s1 := RD1.out.c1
  clear r0 r1 HIS BB b1 HV RDH hcells
  go_wp2
  go_loopw [4, 5, 14] (fun rv nv iv wr => ∃ (k : Nat) (en : Int) (A : List Int), k ≤ es.length ∧ iv = .int .i64 (k : Nat) ∧ nv = .int .i64 en ∧ Hid (De12 base es w1 wr k rv en A)) (fun _ _ iv _ => es.length - (intOf iv).toNat)
  case atStart => exact ⟨0, 0, [], Nat.zero_le _, rfl, rfl, ⟨Own.nil _ _, rfl, ⟨0, HNM.out⟩, ⟨by omega, by omega⟩, Below.refl _ _⟩⟩
  case round =>
    obtain ⟨k, en, A, hk, rfl, rfl, HE⟩ := hrel
    have hb := HE.out.be
    have hsz := hb.size
    have hA := HE.out.len HOK.out
    have hen := HE.out.en
    clear s0 s1
    by_cases hlt : k < es.length
    · obtain ⟨⟨f, t, T⟩, hr⟩ : ∃ r, es[k]? = some r := ⟨es[k], List.getElem?_eq_getElem hlt⟩
      obtain ⟨g, off, rfl, q0, q1, q2⟩ := HC.out k _ hr
      have c0 := cell_later7 hb (Nat.le_refl _) q0
      have c1 := cell_later7 hb (Nat.le_refl _) q1
      have c2 := cell_later7 hb (Nat.le_refl _) q2
      simp only at c0 c1 c2
      have RC := Hid.mk7 (Re.new wr (.int .i64 f) (.int .i64 t) (.string (cacc T)))
      have HO := Hid.mk7 (HE.out.own.allocF (.cells #[.int .i64 f, .int .i64 t, .string (cacc T)] 70))
      have HNE := Hid.mk7 (own_blk HE.out.own)
      have HBX := Hid.mk7 (hb.alloc hsz (.cells #[.int .i64 f, .int .i64 t, .string (cacc T)] 70))
      have hcs : (cacc T).size = T.length := cacc_size T
      have HR := Hid.mk7 hr
      clear q0 q1 q2 hr
      by_cases hT0 : T = []
      · subst hT0
        obtain ⟨q, hnm⟩ := HE.out.nm
        rw [drop_consE HR.out, Nm, if_pos rfl] at hnm
        obtain ⟨n1, _, n3, n4, n5⟩ := hnm
        have HN5 := Hid.mk7 n5
        have HQ := Hid.mk7 (gon_copy (base := base) (en := en) HR.out)
        have hss : decide ((cacc []).size ≠ 0) = false := by rw [hcs]; rfl
        have HIT := Hid.mk7 (isText_any f t (cacc []))
        rw [hss] at HIT
        clear n5 hss hcs HR
        generalize cacc ([] : List UInt8) = s at *
        go_upto_region 8 with fail
        generalize hz : wr.heap.size = z at *
        generalize wr.alloc (.cells #[.int .i64 f, .int .i64 t, .string s] 70) = W at *
        have d0 := RC.out.c0
        have d1 := RC.out.c1
        have d2 := RC.out.c2
        clear c0 c1 c2
        go_wp2_with fail
        refine (HIT.out W).mono ?_
        rintro e w2 ⟨rfl, b2⟩
        have R2 := Hid.mk7 (RC.out.later b2)
        have O2 := Hid.mk7 (HO.out.later b2)
        have B2 := Hid.mk7 (HBX.out.trans (b2.mono HBX.out.size))
        have hzl := RC.out.lt
        have HNE2 : Hid (some z ≠ u4.ownBlock) := HNE.out
        clear d0 d1 d2 RC HO HBX b2 HIT HNE
        have d0 := R2.out.c0
        go_wp2_with fail
        refine (fadd_any w1.heap.size u4 A (f - en) 1 w2 B2.out.size (by omega) (by omega) (by omega) O2.out).mono ?_
        rintro e w3 ⟨rv3, rfl, o3, g3⟩
        have R3 := Hid.mk7 (R2.out.grownF g3 HNE2.out)
        have O3 := Hid.mk7 o3
        have B3 := Hid.mk7 (B2.out.grown g3 B2.out.size (fun j hj => (O2.out.lt j hj).1))
        have HNE3 := Hid.mk7 (own_re O3.out R3.out)
        clear d0 o3 g3 O2 B2 R2
        have d0 := R3.out.c0
        have d1 := R3.out.c1
        have hl2 : (A ++ List.replicate (f - en).toNat 1).length ≤ 100000 := by simp; omega
        obtain ⟨A2, HA2⟩ : ∃ x, Hid (A ++ List.replicate (f - en).toNat 1 = x) := ⟨_, Hid.mk7 rfl⟩
        rw [HA2.out] at O3 hl2
        go_wp2_with fail
        refine (fadd_any w1.heap.size rv3 A2 (t - f) 0 w3 B3.out.size (by omega) (by omega) (by omega) O3.out).mono ?_
        rintro e w4 ⟨rv4, rfl, o4, g4⟩
        have R4 := R3.out.grownF g4 HNE3.out
        have HE4 : Hid (De12 base es w1 w4 (k + 1) rv4 t (A2 ++ List.replicate (t - f).toNat 0)) := by
          refine ⟨o4, ?_, ⟨2, HN5.out⟩, ⟨by omega, n4⟩, B3.out.grown g4 B3.out.size (fun j hj => (O3.out.lt j hj).1)⟩
          rw [HE.out.eq, HQ.out, ← HA2.out]
          simp
        clear d0 d1 o4 g4 O3 B3 R3 HE HQ HA2 HNE2 HNE3
        have d1 := R4.c1
        go_wp2
        go_roundw
        case rel => exact ⟨k + 1, t, _, by omega, by go_num, rfl, HE4⟩
        case measure => simp [intOf]; omega
      · obtain ⟨q, hnm⟩ := HE.out.nm
        rw [drop_consE HR.out, Nm, if_neg hT0] at hnm
        obtain ⟨n1, n2, n3, n4⟩ := hnm
        have HN4 := Hid.mk7 n4
        have HQ := Hid.mk7 (gon_text (base := base) (en := en) HR.out hT0)
        have hss : decide ((cacc T).size ≠ 0) = true := by rw [hcs]; simp; exact hT0
        have HIT := Hid.mk7 (isText_any f t (cacc T))
        rw [hss] at HIT
        clear n4 hss hcs HR hT0 n1 n2 n3
        generalize cacc T = s at *
        go_upto_region 8 with fail
        generalize hz : wr.heap.size = z at *
        generalize wr.alloc (.cells #[.int .i64 f, .int .i64 t, .string s] 70) = W at *
        have d0 := RC.out.c0
        have d1 := RC.out.c1
        have d2 := RC.out.c2
        clear c0 c1 c2
        go_wp2_with fail
        refine (HIT.out W).mono ?_
        rintro e w2 ⟨rfl, b2⟩
        have HE2 : Hid (De12 base es w1 w2 (k + 1) u4 en A) := by
          refine ⟨HO.out.later b2, ?_, ⟨1, HN4.out⟩, hen, HBX.out.trans (b2.mono HBX.out.size)⟩
          rw [HE.out.eq, HQ.out]
        clear d0 d1 d2 RC HO HBX b2 HIT HNE HE HQ
        go_wp2
        go_roundw
        case rel => exact ⟨k + 1, en, _, by omega, by go_num, rfl, HE2⟩
        case measure => simp [intOf]; omega
    · obtain rfl : k = es.length := by omega
      have HQ : Hid (gon base 0 es = A ++ List.replicate (base - en).toNat 1) := by
        show _ = _
        rw [HE.out.eq, List.drop_length]; simp [gon]
      have RD2 := (RD1.out.later hb)
      have e0 := RD2.c0
      have O1 := Hid.mk7 HE.out.own
      clear HE
      go_wp2_with fail
      refine (fadd_any w1.heap.size u4 A (base - en) 1 wr hsz (by omega) (by omega) (by omega) O1.out).mono ?_
      rintro e w2 ⟨rv2, rfl, o2, g2⟩
      rw [← HQ.out] at o2
      have B2 := Hid.mk7 (hb.grown g2 hsz (fun j hj => (O1.out.lt j hj).1))
      have HOF := Hid.mk7 (of_few (O := gon base 0 es) o2.row HOK.out HRL.out)
      clear o2 g2 HQ O1 RD2 e0 hb
      go_wp2_with fail
      refine HOF.out.mono ?_
      rintro e w3 ⟨p, rfl, hs, b3⟩
      have HS := Hid.mk7 hs
      have hb3 := hb1.trans ((B2.out.trans (b3.mono B2.out.size)).mono hb1.size)
      clear hs b3 HOF B2
      go_wp2
      go_ret2
      exact ⟨p, rfl, HS.out, hb3⟩
end Go.Proofs.YtalolaajcmndeaaDoor
