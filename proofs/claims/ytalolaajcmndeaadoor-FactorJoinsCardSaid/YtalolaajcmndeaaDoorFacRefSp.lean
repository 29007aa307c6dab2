/- Rows that are made and filled from the left. The reference's Split. -/
import Derived.Test.YtalolaajcmndeaaDoorSubRefS
import Derived.Test.YtalolaajcmndeaaDoorFacSpl
import Derived.Test.YtalolaajcmndeaaDoorDelRefMade
namespace Go.Proofs.YtalolaajcmndeaaDoor
open Go.RowKit Go.Sort
set_option linter.unusedSimpArgs false
set_option linter.unusedVariables false

/-- The first k of F, then nothing. -/
def FlF (F : List Int) (k : Nat) : List Int := F.take k ++ List.replicate (F.length - k) 0
theorem fl_zeroF (F : List Int) : FlF F 0 = List.replicate F.length 0 := by simp [FlF]
theorem fl_allF (F : List Int) : FlF F F.length = F := by simp [FlF]
theorem fl_lenF (F : List Int) (k : Nat) (h : k ≤ F.length) : (FlF F k).length = F.length := by simp [FlF]; omega
theorem fl_setF {F : List Int} {k : Nat} {c : Int} (h : F[k]? = some c) : (FlF F k).set k c = FlF F (k + 1) := by
  have hk := (List.getElem?_eq_some_iff.1 h).1
  have hl : (F.take k).length = k := by simp; omega
  unfold FlF
  rw [take_snoc7 h, List.set_append_right _ _ (by omega), hl, Nat.sub_self, show F.length - k = (F.length - (k + 1)) + 1 from by omega, List.replicate_succ]
  simp
theorem fl_sameF {F : List Int} {k : Nat} (h : F[k]? = some 0) : FlF F k = FlF F (k + 1) := by
  have hk := (List.getElem?_eq_some_iff.1 h).1
  unfold FlF
  rw [take_snoc7 h, show F.length - k = (F.length - (k + 1)) + 1 from by omega, List.replicate_succ]
  simp
theorem fl_getF {F : List Int} {k : Nat} (hk : k < F.length) : (FlF F k)[k]? = some 0 := by
  have hl : (F.take k).length = k := by simp; omega
  unfold FlF
  rw [List.getElem?_append_right (by omega), hl, Nat.sub_self, List.getElem?_replicate, if_pos (by omega)]
theorem made_zeroF (n : Nat) : (madeCells #[.int .i64 0] n).toList = (List.replicate n (0 : Int)).map (Value.int .i64) := by
  refine List.ext_getElem (by simp [madeCells]) fun i h1 h2 => ?_
  simp [madeCells, Nat.mod_one]
theorem own_madeF {w : World} {B g n cap : Nat} (h : w.ownsRow B 3 1 (.slice (some ⟨g, 0, none⟩) n cap) n (madeCells #[.int .i64 0] n).toList) : OwnI w B (.slice (some ⟨g, 0, none⟩) n cap) (List.replicate n 0) := by
  rw [made_zeroF] at h
  unfold OwnI
  rw [List.length_replicate]
  exact h
theorem ownI_storedF {w : World} {B g n cap : Nat} {X : List Int} (h : OwnI w B (.slice (some ⟨g, 0, none⟩) n cap) X) (hn : X.length = n) (j : Nat) (c : Int) :
    OwnI (w.setCell ⟨g, j, none⟩ (.int .i64 c)) B (.slice (some ⟨g, 0, none⟩) n cap) (X.set j c) ∧ w.grownBy (w.setCell ⟨g, j, none⟩ (.int .i64 c)) (some g) := by
  unfold OwnI at *
  rw [hn] at h
  obtain ⟨h1, h2⟩ := World.ownsRow.stored h j (.int .i64 c)
  refine ⟨?_, h2⟩
  rw [List.length_set, hn, List.map_set]
  exact h1
theorem ownI_atF {w : World} {B g n cap : Nat} {X : List Int} (h : OwnI w B (.slice (some ⟨g, 0, none⟩) n cap) X) (hn : X.length = n) {j : Nat} {c : Int} (hj : X[j]? = some c) :
    w.cell? ⟨g, j, none⟩ = some (.int .i64 c) ∧ w.frozen? ⟨g, j, none⟩ = false := by
  have hl := (List.getElem?_eq_some_iff.1 hj).1
  unfold OwnI at h
  rw [hn] at h
  refine ⟨?_, World.ownsRow.frozenAt h j⟩
  rw [World.ownsRow.cellAt h _ (by omega)]
  simp [hj]
end Go.Proofs.YtalolaajcmndeaaDoor
namespace Go.Proofs.YtalolaajcmndeaaDoor
open Go.RowKit Go.Sort
set_option linter.unusedSimpArgs false
set_option linter.unusedVariables false

/-- What Split's loops hand on: cells of one's own, and a row of numbers that was made ahead of them. -/
structure Sk (W0 : World) (g0 N : Nat) (wr : World) (lv : Value) (cs : List Ce) (X : List Int) : Prop where
  own : OwnK wr (g0 + 1) lv cs
  del : OwnI wr g0 (.slice (some ⟨g0, 0, none⟩) N N) X
  xl : X.length = N
  be : RowKit.Below g0 W0 wr
  sz : g0 + 1 ≤ wr.heap.size
theorem Sk.ne {W0 wr : World} {g0 N : Nat} {lv : Value} {cs : List Ce} {X : List Int} (h : Sk W0 g0 N wr lv cs X) : lv.ownBlock = none ∨ lv.ownBlock ≠ some g0 := by
  by_cases hv : lv.ownBlock = none
  · exact Or.inl hv
  · exact Or.inr fun e => by have := (h.own.lt e).1; omega
theorem Sk.alloc {W0 wr : World} {g0 N : Nat} {lv : Value} {cs : List Ce} {X : List Int} (h : Sk W0 g0 N wr lv cs X) (hw : W0.heap.size = g0) (o : Obj) : Sk W0 g0 N (wr.alloc o) lv cs X :=
  ⟨h.own.alloc o, World.ownsRow.alloc h.del o, h.xl, h.be.alloc (by have := h.be.size; rw [hw] at this; exact this) o, by have := h.sz; simp; omega⟩
theorem Sk.push {W0 wr w3 : World} {g0 N : Nat} {lv v' : Value} {cs : List Ce} {X : List Int} (h : Sk W0 g0 N wr lv cs X) (hw : W0.heap.size = g0) {o : Obj} {c : Ce} {x y : Value}
    (hown : w3.ownsRow (g0 + 1) 37 2 v' (cs.length + 1) (k2 cs ++ [x, y])) (hgrow : (wr.alloc o).grownBy w3 lv.ownBlock) (hx : x = .int .i64 c.1) (hy : y = .int .u8 (c.2.toNat : Int)) :
    Sk W0 g0 N w3 v' (cs ++ [c]) X := by
  subst hx hy
  have ha := h.alloc hw o
  have hsz : W0.heap.size ≤ (wr.alloc o).heap.size := by rw [hw]; have := ha.sz; omega
  refine ⟨?_, World.ownsRow.kept ha.del hgrow ?_, h.xl, ha.be.grown hgrow (by have := ha.sz; omega) (fun j hj => by have := (h.own.lt hj).1; omega), Nat.le_trans ha.sz hgrow.size⟩
  · unfold OwnK
    rw [List.length_append, k2_append, k2_one]
    exact hown
  · exact Or.inr fun e => absurd ((h.own.lt (g := g0) e.symm).1) (by omega)
theorem Sk.store {W0 wr : World} {g0 N : Nat} {lv : Value} {cs : List Ce} {X : List Int} (h : Sk W0 g0 N wr lv cs X) (j : Nat) (c : Int) : Sk W0 g0 N (wr.setCell ⟨g0, j, none⟩ (.int .i64 c)) lv cs (X.set j c) := by
  obtain ⟨h1, h2⟩ := ownI_storedF h.del h.xl j c
  exact ⟨World.ownsRow.kept h.own h2 h.ne, h1, by rw [List.length_set]; exact h.xl, h.be.grown h2 (by have := h.sz; omega) (fun j hj => by cases hj; exact Nat.le_refl _), Nat.le_trans h.sz h2.size⟩
theorem ownK_re {w : World} {B : Nat} {v : Value} {cs : List Ce} {g : Nat} {x y z : Value} (h : OwnK w B v cs) (r : Re w g x y z) : some g ≠ v.ownBlock := fun e => by
  rcases h.2 with ⟨h1, _⟩ | ⟨g', cap, cur, h1, _, h3, _⟩
  · rw [h1] at e; cases e
  · rw [h1] at e
    obtain rfl : g = g' := Option.some.inj e
    unfold Re at r
    rw [r] at h3
    have := congrArg (fun o => match o with | some (Obj.cells _ t _) => t | _ => 0) h3
    simp at this
theorem Re.otherS {w : World} {g g' j : Nat} {x y z v : Value} (h : Re w g x y z) (hne : g ≠ g') : Re (w.setCell ⟨g', j, none⟩ v) g x y z := by
  unfold Re; rw [heap_setCell_other _ _ _ _ hne]; exact h
theorem Re.grown' {w w' : World} {row : Option Nat} {g : Nat} {x y z : Value} (h : Re w g x y z) (hg : w.grownBy w' row) (hne : some g ≠ row) : Re w' g x y z := (hg.block g h.lt hne).trans h
/-- What the outer loop hands on. -/
structure So (es : List El) (F : List Int) (W0 : World) (g0 N : Nat) (wr : World) (k : Nat) (lv : Value) (a : Nat) (A : List Ce) : Prop where
  sk : Sk W0 g0 N wr lv A (FlF F a)
  eq : bce N 0 (insX 0 es) = A ++ bce N a (insX a (es.drop k))
  hg : F.drop a = gon N a (es.drop k)
  nm : ∃ q, Nm N a q (es.drop k)
  an : a ≤ N
theorem So.len {es : List El} {F : List Int} {W0 : World} {g0 N : Nat} {wr : World} {k : Nat} {lv : Value} {a : Nat} {A : List Ce} (h : So es F W0 g0 N wr k lv a A) (hb : (bce N 0 (insX 0 es)).length ≤ 40000) : A.length + (bce N a (insX a (es.drop k))).length ≤ 40000 := by
  have := congrArg List.length h.eq
  rw [List.length_append] at this
  omega
theorem get_of_drop {F A : List Int} {a n : Nat} {c : Int} (h : F.drop a = List.replicate n c ++ A) {p : Nat} (h1 : a ≤ p) (h2 : p < a + n) : F[p]? = some c := by
  have e : F[p]? = (F.drop a)[p - a]? := by rw [List.getElem?_drop]; congr 1; omega
  rw [e, h, List.getElem?_append_left (by simp; omega), List.getElem?_replicate, if_pos (by omega)]
theorem own_snocF {T : List UInt8} {i : Nat} (h : i < T.length) : ownT (T.take (i + 1)) = ownT (T.take i) ++ [(-1, T[i])] := by
  rw [List.take_add_one, List.getElem?_eq_getElem h]; unfold ownT; rw [List.map_append]; rfl
set_option maxHeartbeats 8000000 in
set_option maxRecDepth 100000 in
theorem rsplit_any {w : World} {v : Value} {es : List El} (N : Nat) (h : ElAt w v es) (hi : isB (N : Int) es = true) :
    Calls Tryd.prog 15 #[.agg #[.int .i64 (N : Nat), v]] w fun e w' => ∃ v' u, e = .returned (.tuple #[v', u]) ∧ KAt w' v' (bce N 0 (insX 0 es)) ∧ NumAt .i64 w' u (gon N 0 es) ∧ RowKit.Below w.heap.size w w' := by
  obtain ⟨i0, hi0, hz0, hz1, hz2⟩ := info_parts Tryd.info_ce
  have HI := Hid.mk7 hi0
  obtain ⟨ii0, hii0, hiz0, hiz1, hiz2⟩ := info_parts Tryd.info_int7
  have HII := Hid.mk7 hii0
  have hd := dl_of hi
  obtain ⟨a, cap, rfl, _⟩ := id h
  have BB := Hid.mk7 (below_newE (RowKit.Below.refl w.heap.size w) (.cells #[.int .i64 (N : Nat), .slice a es.length cap] 24))
  have RD := Hid.mk7 (Rd.new w (.int .i64 (N : Nat)) (.slice a es.length cap))
  have HV := Hid.mk7 (h.alloc (.cells #[.int .i64 (N : Nat), .slice a es.length cap] 24))
  have hN : N ≤ 20000 := by have := hd.b1; omega
  have hlen := hd.len
  have HNM := Hid.mk7 hd.nm
  have HSM := Hid.mk7 hd.sm
  have hch := chs_insX es 0 0 (by omega) hd.nm
  have hbl : (bce (N : Int) 0 (insX 0 es)).length ≤ 40000 := by
    have h1 := bce_size _ 0 hch
    have h2 := sz8_two (N : Int) (insX 0 es)
    have h3 := insX_in (base := (N : Int)) es 0
    have h4 := insX_cp es 0
    have h5 := hd.sz
    have h6 := hd.cp0
    rw [Int.sub_zero] at h1
    omega
  have HBL := Hid.mk7 hbl
  have gl := gon_len es 0 0 (by omega : (0 : Int) ≤ (N : Int)) hd.nm
  obtain ⟨F, hF⟩ : ∃ F, gon (N : Int) 0 es = F := ⟨_, rfl⟩
  rw [hF] at gl
  have hFl : F.length = N := by omega
  have HF := Hid.mk7 hF
  have HFL := Hid.mk7 hFl
  clear h hi hd hi0 hii0 gl hF hch hbl hFl
  obtain ⟨_, _, hve, _, _, hcells⟩ := id HV.out
  cases hve
  have HC := Hid.mk7 hcells
  clear hcells HV
  have r0 := RD.out.c0
  have r1 := RD.out.c1
  go_enter Tryd.func15, Tryd.ntmps15
  go_upto_region 2 with fail
  generalize w.alloc (.cells #[.int .i64 (N : Nat), .slice a es.length cap] 24) = W0 at *
  go_wp2_with (at_make; refine wpList_make_full _ rfl _ _ 35 rfl W0.heap.size 3 ii0 (.int .i64 0) 1 Tryd.underlying35 HII.out hiz0 hiz1 .i64 .i64 _ _ N rfl rfl (by omega) (by omega) (by rw [hiz2]; omega) (by unfold maxLen; omega) (Nat.le_refl _) ?_)
  intro w5 hown hgrow
  generalize hW0 : W0.heap.size = g0 at *
  have SK5 : Hid (So es F W0 g0 N w5 0 (.slice none 0 0) 0 []) := by
    have b5 : RowKit.Below g0 W0 w5 := (RowKit.Below.refl g0 W0).grown hgrow (by omega) (fun j hj => by cases hj)
    have o5 : OwnI w5 g0 (.slice (some ⟨g0, 0, none⟩) N N) (FlF F 0) := by rw [fl_zeroF, HFL.out]; exact own_madeF (by simpa [Value.cells] using hown)
    refine ⟨⟨OwnK.nil _ _, o5, by rw [fl_zeroF, HFL.out]; simp, b5, ?_⟩, rfl, by rw [← HF.out]; rfl, ⟨0, HNM.out⟩, Nat.zero_le _⟩
    have := (hown.lt g0 rfl).2
    omega
  clear hown hgrow
  have RD5 := Hid.mk7 (RD.out.later (SK5.out.sk.be.mono (by omega)))
  have s0 := RD5.out.c0
  have s1 := RD5.out.c1
  clear r0 r1
  go_wp2
  go_loopw [4, 6, 7] (fun lv av iv wr => ∃ (k p : Nat) (A : List Ce), k ≤ es.length ∧ iv = .int .i64 (k : Nat) ∧ av = .int .i64 (p : Nat) ∧ Hid (So es F W0 g0 N wr k lv p A)) (fun _ _ iv _ => es.length - (intOf iv).toNat)
  case atStart => exact ⟨0, 0, [], Nat.zero_le _, rfl, rfl, SK5⟩
  case round =>
    clear SK5 s0 s1 RD5
    obtain ⟨k, p, A, hk, rfl, rfl, HE⟩ := hrel
    have hbe : Hid (RowKit.Below W0.heap.size W0 wr) := HE.out.sk.be.mono (by omega)
    have RDk := Hid.mk7 (RD.out.later hbe.out)
    have s0 := RDk.out.c0
    have s1 := RDk.out.c1
    have hpN := HE.out.an
    have hroom := HE.out.len HBL.out
    have gz := RDk.out.lt
    have hsz := HE.out.sk.sz
    by_cases hlt : k < es.length
    · obtain ⟨⟨f, t, T⟩, hr⟩ : ∃ r, es[k]? = some r := ⟨es[k], List.getElem?_eq_getElem hlt⟩
      obtain ⟨g, off, rfl, q0, q1, q2⟩ := HC.out k _ hr
      have c0 := cell_later7 hbe.out (Nat.le_refl _) q0
      have c1 := cell_later7 hbe.out (Nat.le_refl _) q1
      have c2 := cell_later7 hbe.out (Nat.le_refl _) q2
      simp only at c0 c1 c2
      have gl : g < wr.heap.size := World.block_lt_of_cell? wr ⟨g, _, none⟩ c0
      have hT1 := HSM.out _ (List.mem_of_getElem? hr)
      simp only at hT1
      have KA := Hid.mk7 (HE.out.sk.alloc hW0 (.cells #[.int .i64 f, .int .i64 t, .string (cacc T)] 70))
      have RE := Hid.mk7 (Re.new wr (.int .i64 f) (.int .i64 t) (.string (cacc T)))
      have heb : g0 < wr.heap.size := by omega
      have hcs : (cacc T).size = T.length := cacc_size T
      have HR := Hid.mk7 hr
      obtain ⟨q, hnm⟩ := HE.out.nm
      rw [drop_consE hr] at hnm
      have hgd := HE.out.hg
      rw [drop_consE hr] at hgd
      clear q0 q1 q2 hr
      by_cases hT0 : T = []
      · subst hT0
        rw [Nm, if_pos rfl] at hnm
        obtain ⟨n1, _, n3, n4, n5⟩ := hnm
        simp only [gon, if_pos] at hgd
        obtain ⟨fN, rfl⟩ : ∃ n : Nat, f = (n : Int) := ⟨f.toNat, by omega⟩
        obtain ⟨tN, rfl⟩ : ∃ n : Nat, t = (n : Int) := ⟨t.toNat, by omega⟩
        have HG1 : Hid (F.drop p = List.replicate (fN - p) 1 ++ (List.replicate (tN - fN) 0 ++ gon N tN (es.drop (k + 1)))) := by
          show _ = _
          rw [hgd, show ((fN : Int) - (p : Int)).toNat = fN - p by omega, show ((tN : Int) - (fN : Int)).toNat = tN - fN by omega]
        have HG2 : Hid (F.drop fN = List.replicate (tN - fN) 0 ++ gon N tN (es.drop (k + 1))) := by
          have := drop_rep HG1.out
          rw [show p + (fN - p) = fN by omega] at this
          exact this
        have HG3 : Hid (F.drop tN = gon N tN (es.drop (k + 1))) := by
          have := drop_rep HG2.out
          rw [show fN + (tN - fN) = tN by omega] at this
          exact this
        have HXC := insX_copy (en := (p : Int)) HR.out
        have hch2 : Chs N tN (insX tN (es.drop (k + 1))) := chs_insX _ _ 2 (by omega) n5
        have HBF := bce_from _ (p : Int) (tN : Int) (by omega) hch2
        have HEQ : Hid (bce N 0 (insX 0 es) = (A ++ rng p tN) ++ bce N tN (insX tN (es.drop (k + 1)))) := by
          show _ = _
          rw [HE.out.eq, HXC, HBF, List.append_assoc]
        have hrl : A.length + (tN - p) ≤ 40000 := by
          have h1 := congrArg List.length HEQ.out
          have h2 := HBL.out
          rw [List.length_append, List.length_append, rng_len] at h1
          omega
        have HN5 := Hid.mk7 n5
        clear HXC HBF hch2 hgd n5 HE hroom hbe
        have hs0 : (cacc ([] : List UInt8)) = ⟨#[]⟩ := rfl
        rw [hs0] at KA RE c2
        clear hcs hs0
        go_upto_region 8 with fail
        generalize hEB : wr.heap.size = eb at *
        generalize wr.alloc (.cells #[.int .i64 (fN : Nat), .int .i64 (tN : Nat), .string ⟨#[]⟩] 70) = W1 at *
        have e0 := RE.out.c0
        have e1 := RE.out.c1
        have e2 := RE.out.c2
        clear c0 c1 c2 s0 s1
        go_wp2
        go_loopw [4, 6] (fun lv av wx => ∃ i : Nat, p ≤ i ∧ i ≤ tN ∧ av = .int .i64 (i : Nat) ∧ Hid (Sk W0 g0 N wx lv (A ++ rng p i) (FlF F i)) ∧ Hid (Re wx eb (.int .i64 (fN : Nat)) (.int .i64 (tN : Nat)) (.string ⟨#[]⟩))) (fun _ av _ => tN - (intOf av).toNat)
        case atStart => exact ⟨p, Nat.le_refl _, by omega, rfl, by show Sk _ _ _ _ _ _ _; rw [rng_none (Int.le_refl _), List.append_nil]; exact KA.out, RE⟩
        case round =>
          obtain ⟨i, hpi, hit, rfl, KX, RX⟩ := hrel
          clear e0 e1 e2 KA RE
          have e0 := RX.out.c0
          have e1 := RX.out.c1
          have e2 := RX.out.c2
          have hxl := KX.out.xl
          by_cases hlt2 : i < tN
          · have HSN : Hid (A ++ rng p i ++ [((i : Int), 0)] = A ++ rng p ((i + 1 : Nat) : Int)) := by
              show _ = _
              rw [show ((i + 1 : Nat) : Int) = (i : Int) + 1 by omega, rng_snoc (by omega), List.append_assoc]
            obtain ⟨C1, HC1⟩ : ∃ C1, Hid (A ++ rng p i = C1) := ⟨_, Hid.mk7 rfl⟩
            have hl1 : C1.length ≤ 40000 := by rw [← HC1.out, List.length_append, rng_len]; omega
            rw [HC1.out] at KX HSN
            by_cases hf : i < fN
            · have HS1 := Hid.mk7 (KX.out.store i 1)
              have HFS : Hid ((FlF F i).set i 1 = FlF F (i + 1)) := fl_setF (get_of_drop HG1.out hpi (by omega))
              rw [HFS.out] at HS1
              have RX1 := Hid.mk7 (RX.out.otherS (j := i) (v := .int .i64 1) (show eb ≠ g0 by omega))
              obtain ⟨d0, d1⟩ := ownI_atF KX.out.del hxl (fl_getF (F := F) (k := i) (by rw [HFL.out]; omega))
              have hiN : i < N := by omega
              go_upto_region 12 with fail
              generalize wr.setCell ⟨g0, i, none⟩ (.int .i64 1) = W2 at *
              clear d0 d1 e0 e1 e2
              have hsk := HS1.out.sz
              go_wp2_with (at_builtin; refine wpList_append_own _ rfl _ _ 33 rfl (g0 + 1) 37 i0 (.agg #[.int .i64 0, .int .u8 0]) 2 16 Tryd.underlying33 HI.out hz0 hz1 hz2 rfl (by decide) _ _ _ rfl (World.ownsRow.alloc HS1.out.own _) ⟨_, 0, none⟩ 1 1 [.int .i64 (i : Nat), .int .u8 0] rfl rfl (two_newK _ _ _ _) (fun u hu => by simp at hu; rcases hu with rfl | rfl <;> rfl) (by unfold maxLen; omega) (by omega) (by simp; omega) ?_)
              intro v' w3 hown hgrow _
              have KY := Hid.mk7 (HS1.out.push hW0 (c := ((i : Int), 0)) hown hgrow rfl rfl)
              have RY := Hid.mk7 ((RX1.out.alloc _).grown' hgrow (ownK_re HS1.out.own RX1.out))
              rw [HSN.out] at KY
              clear hown hgrow HSN KX RX HS1 RX1
              go_wp2
              go_roundw
              case rel => exact ⟨i + 1, by omega, by omega, by go_num, KY, RY⟩
              case measure => simp [intOf]; omega
            · have HFS : Hid (FlF F i = FlF F (i + 1)) := fl_sameF (get_of_drop HG2.out (by omega) (by omega))
              have HS1 : Hid (Sk W0 g0 N wr u4 C1 (FlF F (i + 1))) := by rw [← HFS.out]; exact KX.out
              have RX1 := RX
              go_upto_region 12 with fail
              clear e0 e1 e2
              have hsk := HS1.out.sz
              go_wp2_with (at_builtin; refine wpList_append_own _ rfl _ _ 33 rfl (g0 + 1) 37 i0 (.agg #[.int .i64 0, .int .u8 0]) 2 16 Tryd.underlying33 HI.out hz0 hz1 hz2 rfl (by decide) _ _ _ rfl (World.ownsRow.alloc HS1.out.own _) ⟨_, 0, none⟩ 1 1 [.int .i64 (i : Nat), .int .u8 0] rfl rfl (two_newK _ _ _ _) (fun u hu => by simp at hu; rcases hu with rfl | rfl <;> rfl) (by unfold maxLen; omega) (by omega) (by simp; omega) ?_)
              intro v' w3 hown hgrow _
              have KY := Hid.mk7 (HS1.out.push hW0 (c := ((i : Int), 0)) hown hgrow rfl rfl)
              have RY := Hid.mk7 ((RX1.out.alloc _).grown' hgrow (ownK_re HS1.out.own RX1.out))
              rw [HSN.out] at KY
              clear hown hgrow HSN KX RX HS1 RX1
              go_wp2
              go_roundw
              case rel => exact ⟨i + 1, by omega, by omega, by go_num, KY, RY⟩
              case measure => simp [intOf]; omega
          · obtain rfl : i = tN := by omega
            have e2 := RX.out.c2
            have HE2 : Hid (So es F W0 g0 N wr (k + 1) u4 i (A ++ rng p i)) := ⟨KX.out, HEQ.out, HG3.out, ⟨2, HN5.out⟩, by omega⟩
            clear KX
            go_wp2
            go_loopw [4, 9] (fun lv jv wx => lv = u4 ∧ jv = .int .i64 0 ∧ wx = wr) (fun _ jv _ => 1 - (intOf jv).toNat)
            case atStart => exact ⟨rfl, rfl, rfl⟩
            case round =>
              obtain ⟨rfl, rfl, rfl⟩ := hrel
              go_wp2
              go_roundw
              case rel => exact ⟨k + 1, i, _, by omega, by go_num, rfl, HE2⟩
              case measure => simp [intOf]; omega
      · rw [Nm, if_neg hT0] at hnm
        obtain ⟨rfl, rfl, n3, n4⟩ := hnm
        simp only [gon, if_neg hT0] at hgd
        have HXC := insX_text (en := (p : Int)) HR.out hT0
        have HEQ : Hid (bce N 0 (insX 0 es) = (A ++ ownT T) ++ bce N p (insX p (es.drop (k + 1)))) := by
          show _ = _
          rw [HE.out.eq, HXC]
          simp only [bce]
          rw [rng_none (Int.le_refl _)]
          simp
        have hrl : A.length + T.length ≤ 40000 := by
          have h1 := congrArg List.length HEQ.out
          have h2 := HBL.out
          rw [List.length_append, List.length_append, own_len] at h1
          omega
        have HG3 := Hid.mk7 hgd
        have HN5 := Hid.mk7 n4
        clear HXC hgd n4 HE hroom hbe
        have hs0 : (cacc T).size ≠ 0 := by rw [hcs]; exact fun e => hT0 (List.eq_nil_of_length_eq_zero e)
        obtain ⟨hs1, hs2⟩ := size_of_ne hs0
        obtain ⟨s, HS⟩ : ∃ s, Hid (s = cacc T) := ⟨_, Hid.mk7 rfl⟩
        rw [← HS.out] at KA RE c2 hcs hs1 hs2
        clear hs0 hT0 n3
        go_upto_region 8 with fail
        generalize hEB : wr.heap.size = eb at *
        generalize wr.alloc (.cells #[.int .i64 0, .int .i64 0, .string s] 70) = W1 at *
        have e0 := RE.out.c0
        have e1 := RE.out.c1
        have e2 := RE.out.c2
        clear c0 c1 c2 s0 s1
        generalize hTl : T.length = Tl at *
        have HTL := Hid.mk7 hTl
        clear hTl
        go_wp2
        go_loopw [4, 9] (fun lv jv wx => ∃ j : Nat, j ≤ Tl ∧ jv = .int .i64 (j : Nat) ∧ Hid (Sk W0 g0 N wx lv (A ++ ownT (T.take j)) (FlF F p)) ∧ Hid (Re wx eb (.int .i64 0) (.int .i64 0) (.string s))) (fun _ jv _ => Tl - (intOf jv).toNat)
        case atStart => exact ⟨0, Nat.zero_le _, rfl, by show Sk _ _ _ _ _ _ _; simpa [ownT] using KA.out, RE⟩
        case round =>
          obtain ⟨j, hj, rfl, KX, RX⟩ := hrel
          clear e0 e1 e2 KA RE
          have e2 := RX.out.c2
          by_cases hjt : j < Tl
          · have hjT : j < T.length := by rw [HTL.out]; exact hjt
            have HSN := Hid.mk7 (own_snocF hjT)
            have HSJ : Hid (∀ h : j < s.size, s[j] = T[j]) := fun h => by have e := HS.out; subst e; rfl
            obtain ⟨C1, HC1⟩ : ∃ C1, Hid (A ++ ownT (T.take j) = C1) := ⟨_, Hid.mk7 rfl⟩
            have hl1 : C1.length ≤ 40000 := by rw [← HC1.out, List.length_append, own_len, List.length_take]; omega
            rw [HC1.out] at KX
            have hsk := KX.out.sz
            go_wp2_with (at_builtin; refine wpList_append_own _ rfl _ _ 33 rfl (g0 + 1) 37 i0 (.agg #[.int .i64 0, .int .u8 0]) 2 16 Tryd.underlying33 HI.out hz0 hz1 hz2 rfl (by decide) _ _ _ rfl (World.ownsRow.alloc KX.out.own _) ⟨_, 0, none⟩ 1 1 [.int .i64 (-1), .int .u8 ((s[j]).toNat : Int)] rfl rfl (two_newK _ _ _ _) (fun u hu => by simp at hu; rcases hu with rfl | rfl <;> rfl) (by unfold maxLen; omega) (by omega) (by simp; omega) ?_)
            intro v' w3 hown hgrow _
            have KY := Hid.mk7 (KX.out.push hW0 (c := (-1, T[j])) hown hgrow rfl (by rw [HSJ.out]))
            have RY := Hid.mk7 ((RX.out.alloc _).grown' hgrow (ownK_re KX.out.own RX.out))
            have HE1 : Hid (C1 ++ [(-1, T[j])] = A ++ ownT (T.take (j + 1))) := by show _ = _; rw [HSN.out, ← HC1.out, List.append_assoc]
            rw [HE1.out] at KY
            clear hown hgrow HSN HSJ HE1 e2 KX RX
            go_wp2
            go_roundw
            case rel => exact ⟨j + 1, by omega, by go_num, KY, RY⟩
            case measure => simp [intOf]; omega
          · obtain rfl : j = Tl := by omega
            have HOT : Hid (ownT (T.take j) = ownT T) := by show _ = _; rw [← HTL.out, List.take_length]
            rw [HOT.out] at KX
            have HE2 : Hid (So es F W0 g0 N wr (k + 1) u4 p (A ++ ownT T)) := ⟨KX.out, HEQ.out, HG3.out, ⟨1, HN5.out⟩, hpN⟩
            clear KX RX
            go_wp2
            go_roundw
            case rel => exact ⟨k + 1, p, _, by omega, by go_num, rfl, HE2⟩
            case measure => simp [intOf]; omega
    · obtain rfl : k = es.length := by omega
      have HEQ : Hid (bce N 0 (insX 0 es) = A ++ rng p N) := by
        show _ = _
        rw [HE.out.eq, List.drop_length]; rfl
      have HG1 : Hid (F.drop p = List.replicate (N - p) 1 ++ []) := by
        show _ = _
        rw [HE.out.hg, List.drop_length]
        simp [gon]
        try omega
      have hrl : A.length + (N - p) ≤ 40000 := by
        have h1 := congrArg List.length HEQ.out
        have h2 := HBL.out
        rw [List.length_append, rng_len] at h1
        omega
      have KA := Hid.mk7 HE.out.sk
      clear HE hroom hbe
      go_wp2
      go_loopw [4, 6] (fun lv av wx => ∃ i : Nat, p ≤ i ∧ i ≤ N ∧ av = .int .i64 (i : Nat) ∧ Hid (Sk W0 g0 N wx lv (A ++ rng p i) (FlF F i))) (fun _ av _ => N - (intOf av).toNat)
      case atStart => exact ⟨p, Nat.le_refl _, hpN, rfl, by show Sk _ _ _ _ _ _ _; rw [rng_none (Int.le_refl _), List.append_nil]; exact KA.out⟩
      case round =>
        obtain ⟨i, hpi, hiN0, rfl, KX⟩ := hrel
        clear s0 s1 RDk gz KA
        have RDk := RD.out.later (KX.out.be.mono (by omega))
        have s0 := RDk.c0
        have hxl := KX.out.xl
        by_cases hlt2 : i < N
        · have HSN : Hid (A ++ rng p i ++ [((i : Int), 0)] = A ++ rng p ((i + 1 : Nat) : Int)) := by
            show _ = _
            rw [show ((i + 1 : Nat) : Int) = (i : Int) + 1 by omega, rng_snoc (by omega), List.append_assoc]
          obtain ⟨C1, HC1⟩ : ∃ C1, Hid (A ++ rng p i = C1) := ⟨_, Hid.mk7 rfl⟩
          have hl1 : C1.length ≤ 40000 := by rw [← HC1.out, List.length_append, rng_len]; omega
          rw [HC1.out] at KX HSN
          have HS1 := Hid.mk7 (KX.out.store i 1)
          have HFS : Hid ((FlF F i).set i 1 = FlF F (i + 1)) := fl_setF (get_of_drop HG1.out hpi (by omega))
          rw [HFS.out] at HS1
          obtain ⟨d0, d1⟩ := ownI_atF KX.out.del hxl (fl_getF (F := F) (k := i) (by rw [HFL.out]; omega))
          go_upto_region 20 with fail
          generalize wr.setCell ⟨g0, i, none⟩ (.int .i64 1) = W2 at *
          clear d0 d1 s0
          have hsk := HS1.out.sz
          go_wp2_with (at_builtin; refine wpList_append_own _ rfl _ _ 33 rfl (g0 + 1) 37 i0 (.agg #[.int .i64 0, .int .u8 0]) 2 16 Tryd.underlying33 HI.out hz0 hz1 hz2 rfl (by decide) _ _ _ rfl (World.ownsRow.alloc HS1.out.own _) ⟨_, 0, none⟩ 1 1 [.int .i64 (i : Nat), .int .u8 0] rfl rfl (two_newK _ _ _ _) (fun u hu => by simp at hu; rcases hu with rfl | rfl <;> rfl) (by unfold maxLen; omega) (by omega) (by simp; omega) ?_)
          intro v' w3 hown hgrow _
          have KY := Hid.mk7 (HS1.out.push hW0 (c := ((i : Int), 0)) hown hgrow rfl rfl)
          rw [HSN.out] at KY
          clear hown hgrow HSN KX HS1
          go_wp2
          go_roundw
          case rel => exact ⟨i + 1, by omega, by omega, by go_num, KY⟩
          case measure => simp [intOf]; omega
        · obtain rfl : i = N := by omega
          have HK : Hid (KAt wr u4 (bce i 0 (insX 0 es))) := by have := KX.out.own.row; rw [HEQ.out]; exact this
          have HNU : Hid (NumAt .i64 wr (.slice (some ⟨g0, 0, none⟩) i i) (gon i 0 es)) := by
            have := KX.out.del.num
            rw [show FlF F i = F from by rw [← HFL.out]; exact fl_allF F, ← HF.out] at this
            exact this
          have HBE : Hid (RowKit.Below w.heap.size w wr) := BB.out.trans (KX.out.be.mono (by rw [← hW0]; exact BB.out.size))
          clear KX
          go_wp2
          go_ret2
          exact ⟨_, _, rfl, HK.out, HNU.out, HBE.out⟩
end Go.Proofs.YtalolaajcmndeaaDoor
