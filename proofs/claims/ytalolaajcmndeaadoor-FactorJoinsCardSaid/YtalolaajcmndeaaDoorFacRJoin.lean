/- The reference's Kept. The reference's Join. -/
import Derived.Test.YtalolaajcmndeaaDoorFacSpl
import Derived.Test.YtalolaajcmndeaaDoorDelHelp
import Derived.Test.YtalolaajcmndeaaDoorFacChg
import Derived.Test.YtalolaajcmndeaaDoorDelCell
namespace Go.Proofs.YtalolaajcmndeaaDoor
open Go.RowKit Go.Sort
set_option linter.unusedSimpArgs false
set_option linter.unusedVariables false

/-- The first k of G, then nothing. -/
def FlB (G : List Bool) (k : Nat) : List Bool := G.take k ++ List.replicate (G.length - k) false
theorem flB_zero (G : List Bool) : FlB G 0 = List.replicate G.length false := by simp [FlB]
theorem flB_all (G : List Bool) : FlB G G.length = G := by simp [FlB]
theorem flB_len (G : List Bool) (k : Nat) (h : k ≤ G.length) : (FlB G k).length = G.length := by simp [FlB]; omega
theorem flB_set {G : List Bool} {k : Nat} {c : Bool} (h : G[k]? = some c) : (FlB G k).set k c = FlB G (k + 1) := by
  have hk := (List.getElem?_eq_some_iff.1 h).1
  have hl : (G.take k).length = k := by simp; omega
  unfold FlB
  rw [take_snoc7 h, List.set_append_right _ _ (by omega), hl, Nat.sub_self, show G.length - k = (G.length - (k + 1)) + 1 from by omega, List.replicate_succ]
  simp
theorem flB_same {G : List Bool} {k : Nat} (h : G[k]? = some false) : FlB G k = FlB G (k + 1) := by
  have hk := (List.getElem?_eq_some_iff.1 h).1
  unfold FlB
  rw [take_snoc7 h, show G.length - k = (G.length - (k + 1)) + 1 from by omega, List.replicate_succ]
  simp
theorem flB_gap {G : List Bool} : ∀ (n a : Nat), (∀ i, a ≤ i → i < a + n → G[i]? = some false) → FlB G a = FlB G (a + n)
  | 0, _, _ => rfl
  | n + 1, a, h => by
    rw [flB_gap n a fun i h1 h2 => h i h1 (by omega), flB_same (h (a + n) (by omega) (by omega))]; rfl
theorem flB_get {G : List Bool} {k : Nat} (hk : k < G.length) : (FlB G k)[k]? = some false := by
  have hl : (G.take k).length = k := by simp; omega
  unfold FlB
  rw [List.getElem?_append_right (by omega), hl, Nat.sub_self, List.getElem?_replicate, if_pos (by omega)]
theorem Tryd.info_boolF : (Tryd.prog.info? 4).map (fun i => (i.zero, i.size, i.bytes)) = some (some (.bool false), 1, 1) := by kernel_rfl
/-- A row of Bools of one's own; in memory. -/
def OwnBl (w : World) (B : Nat) (v : Value) (X : List Bool) : Prop := w.ownsRow B 4 1 v X.length (X.map Value.bool)
def BlAt (w : World) (v : Value) (bs : List Bool) : Prop :=
  ∃ a cap, v = .slice a bs.length cap ∧ ∀ i b, bs[i]? = some b → ∃ g off, a = some ⟨g, off, none⟩ ∧ w.cell? ⟨g, off + i, none⟩ = some (.bool b)
theorem BlAt.later {w w' : World} {v : Value} {bs : List Bool} (h : BlAt w v bs) (hb : Below w.heap.size w w') : BlAt w' v bs := by
  obtain ⟨a, cap, e, h⟩ := h
  refine ⟨a, cap, e, fun i r hr => ?_⟩
  obtain ⟨g, off, ea, h1⟩ := h i r hr
  exact ⟨g, off, ea, cell_later7 hb (Nat.le_refl _) h1⟩
theorem made_falseF (n : Nat) : (madeCells #[.bool false] n).toList = (List.replicate n false).map Value.bool := by
  refine List.ext_getElem (by simp [madeCells]) fun i h1 h2 => ?_
  simp [madeCells, Nat.mod_one]
theorem own_madeB {w : World} {B g n cap : Nat} (h : w.ownsRow B 4 1 (.slice (some ⟨g, 0, none⟩) n cap) n (madeCells #[.bool false] n).toList) : OwnBl w B (.slice (some ⟨g, 0, none⟩) n cap) (List.replicate n false) := by
  rw [made_falseF] at h
  unfold OwnBl
  rw [List.length_replicate]
  exact h
theorem ownB_stored {w : World} {B g n cap : Nat} {X : List Bool} (h : OwnBl w B (.slice (some ⟨g, 0, none⟩) n cap) X) (hn : X.length = n) (j : Nat) (c : Bool) :
    OwnBl (w.setCell ⟨g, j, none⟩ (.bool c)) B (.slice (some ⟨g, 0, none⟩) n cap) (X.set j c) ∧ w.grownBy (w.setCell ⟨g, j, none⟩ (.bool c)) (some g) := by
  unfold OwnBl at *
  rw [hn] at h
  obtain ⟨h1, h2⟩ := World.ownsRow.stored h j (.bool c)
  refine ⟨?_, h2⟩
  rw [List.length_set, hn, List.map_set]
  exact h1
theorem ownB_at {w : World} {B g n cap : Nat} {X : List Bool} (h : OwnBl w B (.slice (some ⟨g, 0, none⟩) n cap) X) (hn : X.length = n) {j : Nat} {c : Bool} (hj : X[j]? = some c) :
    w.cell? ⟨g, j, none⟩ = some (.bool c) ∧ w.frozen? ⟨g, j, none⟩ = false := by
  have hl := (List.getElem?_eq_some_iff.1 hj).1
  unfold OwnBl at h
  rw [hn] at h
  refine ⟨?_, World.ownsRow.frozenAt h j⟩
  rw [World.ownsRow.cellAt h _ (by omega)]
  simp [hj]
theorem get_of_dropK {F A : List Int} {a n : Nat} {c : Int} (h : F.drop a = List.replicate n c ++ A) {p : Nat} (h1 : a ≤ p) (h2 : p < a + n) : F[p]? = some c := by
  have e : F[p]? = (F.drop a)[p - a]? := by rw [List.getElem?_drop]; congr 1; omega
  rw [e, h, List.getElem?_append_left (by simp; omega), List.getElem?_replicate, if_pos (by omega)]
/-- Which of the base are kept. -/
def kpb (F : List Int) : List Bool := F.map fun c => decide (c = 0)
theorem kpb_get {F : List Int} {i : Nat} {c : Int} (h : F[i]? = some c) : (kpb F)[i]? = some (decide (c = 0)) := by unfold kpb; rw [List.getElem?_map, h]; rfl
/-- What Kept's loops hand on. -/
structure Ki (W0 : World) (g0 N : Nat) (wr : World) (X : List Bool) : Prop where
  own : OwnBl wr g0 (.slice (some ⟨g0, 0, none⟩) N N) X
  xl : X.length = N
  be : RowKit.Below g0 W0 wr
  sz : g0 + 1 ≤ wr.heap.size
theorem Ki.store {W0 wr : World} {g0 N : Nat} {X : List Bool} (h : Ki W0 g0 N wr X) (j : Nat) (c : Bool) : Ki W0 g0 N (wr.setCell ⟨g0, j, none⟩ (.bool c)) (X.set j c) := by
  obtain ⟨h1, h2⟩ := ownB_stored h.own h.xl j c
  exact ⟨h1, by rw [List.length_set]; exact h.xl, h.be.grown h2 (by have := h.sz; omega) (fun j hj => by cases hj; exact Nat.le_refl _), Nat.le_trans h.sz h2.size⟩
structure Ko (es : List El) (F : List Int) (W0 : World) (g0 N : Nat) (wr : World) (k p : Nat) : Prop where
  ki : Ki W0 g0 N wr (FlB (kpb F) p)
  hg : F.drop p = gon N p (es.drop k)
  nm : ∃ q, Nm N p q (es.drop k)
  an : p ≤ N
set_option maxHeartbeats 4000000 in
set_option maxRecDepth 100000 in
theorem rkept_any {w : World} {v : Value} {es : List El} (N : Nat) (h : ElAt w v es) (hi : isB (N : Int) es = true) :
    Calls Tryd.prog 22 #[.agg #[.int .i64 (N : Nat), v]] w fun e w' => ∃ v', e = .returned v' ∧ BlAt w' v' (kpb (gon N 0 es)) ∧ RowKit.Below w.heap.size w w' := by
  obtain ⟨i0, hi0, hz0, hz1, hz2⟩ := info_parts Tryd.info_boolF
  have HI := Hid.mk7 hi0
  have hd := dl_of hi
  obtain ⟨a, cap, rfl, _⟩ := id h
  have BB := Hid.mk7 (below_newE (RowKit.Below.refl w.heap.size w) (.cells #[.int .i64 (N : Nat), .slice a es.length cap] 24))
  have RD := Hid.mk7 (Rd.new w (.int .i64 (N : Nat)) (.slice a es.length cap))
  have HV := Hid.mk7 (h.alloc (.cells #[.int .i64 (N : Nat), .slice a es.length cap] 24))
  have hN : N ≤ 20000 := by have := hd.b1; omega
  have hlen := hd.len
  have HNM := Hid.mk7 hd.nm
  have gl := gon_len es 0 0 (by omega : (0 : Int) ≤ (N : Int)) hd.nm
  obtain ⟨F, hF⟩ : ∃ F, gon (N : Int) 0 es = F := ⟨_, rfl⟩
  rw [hF] at gl
  rw [hF]
  have hFl : F.length = N := by omega
  have hKl : (kpb F).length = N := by simp [kpb, hFl]
  have HF := Hid.mk7 hF
  have HKL := Hid.mk7 hKl
  clear h hi hd hi0 gl hF hFl hKl
  obtain ⟨_, _, hve, _, _, hcells⟩ := id HV.out
  cases hve
  have HC := Hid.mk7 hcells
  clear hcells HV
  have r0 := RD.out.c0
  have r1 := RD.out.c1
  go_enter Tryd.func22, Tryd.ntmps22
  go_upto_region 1 with fail
  generalize w.alloc (.cells #[.int .i64 (N : Nat), .slice a es.length cap] 24) = W0 at *
  go_wp2_with (at_make; refine wpList_make_full _ rfl _ _ 50 rfl W0.heap.size 4 i0 (.bool false) 1 Tryd.underlying50 HI.out hz0 hz1 .i64 .i64 _ _ N rfl rfl (by omega) (by omega) (by rw [hz2]; omega) (by unfold maxLen; omega) (Nat.le_refl _) ?_)
  intro w5 hown hgrow
  generalize hW0 : W0.heap.size = g0 at *
  have SK5 : Hid (Ko es F W0 g0 N w5 0 0) := by
    have b5 : RowKit.Below g0 W0 w5 := (RowKit.Below.refl g0 W0).grown hgrow (by omega) (fun j hj => by cases hj)
    have o5 : OwnBl w5 g0 (.slice (some ⟨g0, 0, none⟩) N N) (FlB (kpb F) 0) := by rw [flB_zero, HKL.out]; exact own_madeB (by simpa [Value.cells] using hown)
    refine ⟨⟨o5, by rw [flB_zero, HKL.out]; simp, b5, ?_⟩, by rw [← HF.out]; rfl, ⟨0, HNM.out⟩, Nat.zero_le _⟩
    have := (hown.lt g0 rfl).2
    omega
  clear hown hgrow r0 r1
  go_wp2
  go_loopw [4] (fun iv wr => ∃ (k p : Nat), k ≤ es.length ∧ iv = .int .i64 (k : Nat) ∧ Hid (Ko es F W0 g0 N wr k p)) (fun iv _ => es.length - (intOf iv).toNat)
  case atStart => exact ⟨0, 0, Nat.zero_le _, rfl, SK5⟩
  case round =>
    clear SK5
    obtain ⟨k, p, hk, rfl, HE⟩ := hrel
    have hbe : Hid (RowKit.Below W0.heap.size W0 wr) := HE.out.ki.be.mono (by omega)
    have RDk := Hid.mk7 (RD.out.later hbe.out)
    have s1 := RDk.out.c1
    have hpN := HE.out.an
    by_cases hlt : k < es.length
    · obtain ⟨⟨f, t, T⟩, hr⟩ : ∃ r, es[k]? = some r := ⟨es[k], List.getElem?_eq_getElem hlt⟩
      obtain ⟨g, off, rfl, q0, q1, q2⟩ := HC.out k _ hr
      have c0 := cell_later7 hbe.out (Nat.le_refl _) q0
      have c1 := cell_later7 hbe.out (Nat.le_refl _) q1
      have HQ1 := Hid.mk7 q1
      simp only at c0 c1 HQ1
      have HR := Hid.mk7 hr
      obtain ⟨q, hnm⟩ := HE.out.nm
      rw [drop_consE hr] at hnm
      have hgd := HE.out.hg
      rw [drop_consE hr] at hgd
      clear q0 q1 q2 hr
      by_cases hT0 : T = []
      · subst hT0
        rw [Nm, if_pos rfl] at hnm
        obtain ⟨n1, _, n3, n4, n5⟩ := hnm
        simp only [gon, if_pos] at hgd
        obtain ⟨fN, rfl⟩ : ∃ n : Nat, f = (n : Int) := ⟨f.toNat, by omega⟩
        obtain ⟨tN, rfl⟩ : ∃ n : Nat, t = (n : Int) := ⟨t.toNat, by omega⟩
        have HG1 : Hid (F.drop p = List.replicate (fN - p) 1 ++ (List.replicate (tN - fN) 0 ++ gon N tN (es.drop (k + 1)))) := by
          show _ = _
          rw [hgd, show ((fN : Int) - (p : Int)).toNat = fN - p by omega, show ((tN : Int) - (fN : Int)).toNat = tN - fN by omega]
        have HG2 : Hid (F.drop fN = List.replicate (tN - fN) 0 ++ gon N tN (es.drop (k + 1))) := by
          have := drop_rep HG1.out
          rw [show p + (fN - p) = fN by omega] at this
          exact this
        have HG3 : Hid (F.drop tN = gon N tN (es.drop (k + 1))) := by
          have := drop_rep HG2.out
          rw [show fN + (tN - fN) = tN by omega] at this
          exact this
        have HGAP : Hid (FlB (kpb F) p = FlB (kpb F) fN) := by
          have := flB_gap (G := kpb F) (fN - p) p fun i h1 h2 => by rw [kpb_get (get_of_dropK HG1.out h1 h2)]; rfl
          rw [show p + (fN - p) = fN by omega] at this
          exact this
        have KA : Hid (Ki W0 g0 N wr (FlB (kpb F) fN)) := by rw [← HGAP.out]; exact HE.out.ki
        have HN5 := Hid.mk7 n5
        clear hgd n5 HE hbe HGAP
        go_wp2
        go_loopw [5] (fun jv wx => ∃ i : Nat, fN ≤ i ∧ i ≤ tN ∧ jv = .int .i64 (i : Nat) ∧ Hid (Ki W0 g0 N wx (FlB (kpb F) i))) (fun jv _ => tN - (intOf jv).toNat)
        case atStart => exact ⟨fN, Nat.le_refl _, by omega, rfl, KA⟩
        case round =>
          obtain ⟨i, hpi, hit, rfl, KX⟩ := hrel
          clear KA c0 c1 s1 RDk
          have hbx : Hid (RowKit.Below W0.heap.size W0 wr) := KX.out.be.mono (by omega)
          have RDx := Hid.mk7 (RD.out.later hbx.out)
          have s1 := RDx.out.c1
          have c1 := cell_later7 hbx.out (Nat.le_refl _) HQ1.out
          have hxl := KX.out.xl
          by_cases hlt2 : i < tN
          · have HS1 := Hid.mk7 (KX.out.store i true)
            have HFS : Hid ((FlB (kpb F) i).set i true = FlB (kpb F) (i + 1)) := flB_set (by rw [kpb_get (get_of_dropK HG2.out hpi (by omega))]; rfl)
            rw [HFS.out] at HS1
            obtain ⟨d0, d1⟩ := ownB_at KX.out.own hxl (flB_get (G := kpb F) (k := i) (by rw [HKL.out]; omega))
            have hiN : i < N := by omega
            clear KX hbx
            go_wp2
            go_roundw
            case rel => exact ⟨i + 1, by omega, by omega, by go_num, HS1⟩
            case measure => simp [intOf]; omega
          · obtain rfl : i = tN := by omega
            have HE2 : Hid (Ko es F W0 g0 N wr (k + 1) i) := ⟨KX.out, HG3.out, ⟨2, HN5.out⟩, by omega⟩
            clear KX hbx
            go_wp2
            go_roundw
            case rel => exact ⟨k + 1, i, by omega, by go_num, HE2⟩
            case measure => simp [intOf]; omega
      · rw [Nm, if_neg hT0] at hnm
        obtain ⟨rfl, rfl, n3, n4⟩ := hnm
        simp only [gon, if_neg hT0] at hgd
        have HE2 : Hid (Ko es F W0 g0 N wr (k + 1) p) := ⟨HE.out.ki, hgd, ⟨1, n4⟩, hpN⟩
        clear hgd n4 HE hbe
        go_wp2
        go_loopw [5] (fun jv wx => jv = .int .i64 0 ∧ wx = wr) (fun jv _ => 1 - (intOf jv).toNat)
        case atStart => exact ⟨rfl, rfl⟩
        case round =>
          obtain ⟨rfl, rfl⟩ := hrel
          go_wp2
          go_roundw
          case rel => exact ⟨k + 1, p, by omega, by go_num, HE2⟩
          case measure => simp [intOf]; omega
    · obtain rfl : k = es.length := by omega
      have HG1 : Hid (F.drop p = List.replicate (N - p) 1 ++ []) := by
        show _ = _
        rw [HE.out.hg, List.drop_length]
        simp [gon]
        try omega
      have HGAP : Hid (FlB (kpb F) p = kpb F) := by
        have := flB_gap (G := kpb F) (N - p) p fun i h1 h2 => by rw [kpb_get (get_of_dropK HG1.out h1 h2)]; rfl
        rw [show p + (N - p) = N by omega] at this
        show _ = _
        rw [this, ← HKL.out, flB_all]
      have HB : Hid (BlAt wr (.slice (some ⟨g0, 0, none⟩) N N) (kpb F)) := by
        refine ⟨_, N, by rw [HKL.out], fun i b hb => ⟨g0, 0, rfl, ?_⟩⟩
        rw [Nat.zero_add]
        exact (ownB_at HE.out.ki.own HE.out.ki.xl (by rw [HGAP.out]; exact hb)).1
      have HBE : Hid (RowKit.Below w.heap.size w wr) := BB.out.trans (HE.out.ki.be.mono (by rw [← hW0]; exact BB.out.size))
      clear HE hbe HGAP
      go_wp2
      go_ret
      exact ⟨_, rfl, HB.out, HBE.out⟩
end Go.Proofs.YtalolaajcmndeaaDoor
namespace Go.Proofs.YtalolaajcmndeaaDoor
open Go.RowKit Go.Sort
set_option linter.unusedSimpArgs false
set_option linter.unusedVariables false

/-- Both halves can be put together: by the steps that changes takes. -/
theorem chd_ind {base : Int} {L : List Int} {es : List El} (hi : isB base es = true) (hL : Ok8 L) (hlen : (L.length : Int) = base) : ∀ (n : Nat) (xs : List El) (ys : List Sg) (acc : List El) (a : Int) (k : Nat) (txt : List UInt8),
    xs.length + ys.length ≤ n → Cp base L es xs ys acc a k txt → ∃ l, Chd base L es l
  | n, [], ys, acc, a, k, txt, _, h => ⟨_, cp_end hi h⟩
  | 0, x :: xs, ys, acc, a, k, txt, hn, h => by simp at hn
  | n + 1, (f, t, T) :: xs, ys, acc, a, k, txt, hn, h => by
    by_cases hT : T = []
    · subst hT
      have hky := h.ky
      rw [Ky, if_pos rfl] at hky
      obtain ⟨rfl, hft, hk2⟩ := hky
      have htb := ky_le _ _ _ hk2
      have ha0 := h.a0
      obtain ⟨m, c, ys, rfl⟩ : ∃ m c qs, ys = (m, c) :: qs := by
        refine xp_cons_of fun e => ?_
        have h1 := h.ry
        rw [e] at h1
        have h2 := congrArg List.length h1
        simp at h2
        omega
      have hm1 : 1 ≤ m := h.py (m, c) (by simp)
      obtain ⟨ic, lc⟩ := xp_head_in (rs := ys) (c := c) hm1
      have hc0 : 0 ≤ c := by
        rw [h.ry] at ic
        exact (hL.2 c (List.mem_of_mem_drop ic)).1
      obtain ⟨n', hn'⟩ : ∃ n', n' = min (t - f) m := ⟨_, rfl⟩
      have h5 := cp_copy h (n := n') (tu := if 0 < c then f + n' else f) (by omega) (by omega) (by omega) (by omega) (by
        by_cases hc : 0 < c
        · exact Or.inl ⟨hc, if_pos hc⟩
        · exact Or.inr ⟨by omega, if_neg hc⟩)
      have e1 := lessE_len f t n' xs
      have e2 := less_len m c n' ys
      refine chd_ind hi hL hlen n _ _ _ _ _ _ ?_ h5
      simp only [List.length_cons] at hn
      rcases (show f + n' = t ∨ m = n' by omega) with h6 | h6
      · have := e1.2 h6; omega
      · have := e2.2 h6; omega
    · exact chd_ind hi hL hlen n _ _ _ _ _ _ (by simp only [List.length_cons] at hn; omega) (cp_text h hT)
theorem chd_ex {base : Int} {L : List Int} {es : List El} (hi : isB base es = true) (hcp : cpS es = base) (hL : Ok8 L) (hlen : (L.length : Int) = base) : ∃ l, Chd base L es l :=
  chd_ind hi hL hlen _ _ _ _ _ _ _ (Nat.le_refl _) (cp_start (ky_isB hi hcp) (dl_of hi).vl)
theorem fil_take {L : List Int} {cs : List Ce} {k : Nat} {c : Ce} (h : cs[k]? = some c) : fil L (cs.take (k + 1)) = fil L (cs.take k) ++ fil L [c] := by
  rw [take_snoc7 h, fil_append]
theorem fil_keep {L : List Int} {c : Ce} (h : c.1 < 0 ∨ L.getD c.1.toNat 0 = 0) : fil L [c] = [c] := by
  unfold fil
  rw [List.filter_cons_of_pos (by simpa using h)]; rfl
theorem fil_go {L : List Int} {c : Ce} (h1 : 0 ≤ c.1) (h2 : L.getD c.1.toNat 0 ≠ 0) : fil L [c] = [] := by
  unfold fil
  rw [List.filter_cons_of_neg (by simp only [Bool.or_eq_true, decide_eq_true_eq, not_or]; exact ⟨by omega, h2⟩)]; rfl
set_option maxHeartbeats 4000000 in
set_option maxRecDepth 100000 in
theorem rjoin_any {w : World} {v u : Value} {cs : List Ce} {L : List Int} (h : KAt w v cs) (hu : NumAt .i64 w u L) (hc : ∀ c ∈ cs, c.1 < 0 ∨ (0 ≤ c.1 ∧ c.1 < L.length)) (hl : cs.length ≤ 40000) (hL : L.length ≤ 20000) :
    Calls Tryd.prog 23 #[v, u] w fun e w' => ∃ v', e = .returned v' ∧ KAt w' v' (fil L cs) ∧ RowKit.Below w.heap.size w w' := by
  obtain ⟨i0, hi0, hz0, hz1, hz2⟩ := info_parts Tryd.info_ce
  have HI := Hid.mk7 hi0
  obtain ⟨a, cap, rfl, hcap, hcells⟩ := h
  obtain ⟨a2, cap2, rfl, hcap2, hcells2⟩ := hu
  have HC := Hid.mk7 hcells
  have HC2 := Hid.mk7 hcells2
  have HIN := Hid.mk7 hc
  clear hcells hcells2 hi0 hc
  go_enter Tryd.func23, Tryd.ntmps23
  go_wp2
  go_loopw [5, 6] (fun lv iv wr => ∃ k : Nat, k ≤ cs.length ∧ iv = .int .i64 (k : Nat) ∧ Hid (OwnK wr w.heap.size lv (fil L (cs.take k))) ∧ RowKit.Below w.heap.size w wr) (fun _ iv _ => cs.length - (intOf iv).toNat)
  case atStart => exact ⟨0, Nat.zero_le _, rfl, OwnK.nil _ _, RowKit.Below.refl _ _⟩
  case round =>
    obtain ⟨k, hk, rfl, HO, hb⟩ := hrel
    have hsz := hb.size
    by_cases hlt : k < cs.length
    · obtain ⟨⟨x, b⟩, hr⟩ : ∃ r, cs[k]? = some r := ⟨cs[k], List.getElem?_eq_getElem hlt⟩
      obtain ⟨g, off, rfl, q0, q1⟩ := HC.out k _ hr
      have c0 := cell_later7 hb (Nat.le_refl _) q0
      have c1 := cell_later7 hb (Nat.le_refl _) q1
      simp only at c0 c1
      have gl : g < wr.heap.size := World.block_lt_of_cell? wr ⟨g, _, none⟩ c0
      have HTK := Hid.mk7 (fil_take (L := L) hr)
      have hin := HIN.out (x, b) (List.mem_of_getElem? hr)
      simp only at hin
      have htl : (fil L (cs.take k)).length ≤ 40000 := by
        have : (fil L (cs.take k)).length ≤ (cs.take k).length := List.length_filter_le _ _
        rw [List.length_take] at this
        omega
      obtain ⟨C1, HC1⟩ : ∃ C1, Hid (fil L (cs.take k) = C1) := ⟨_, Hid.mk7 rfl⟩
      rw [HC1.out] at HO htl HTK
      clear q0 q1 hr
      by_cases hneg : x < 0
      · have d1 : decide (x < 0) = true := decide_eq_true hneg
        have HK := Hid.mk7 (fil_keep (L := L) (c := (x, b)) (Or.inl hneg))
        rw [HK.out] at HTK
        clear HK hin
        go_wp2_with (at_builtin; refine wpList_append_own _ rfl _ _ 33 rfl w.heap.size 37 i0 (.agg #[.int .i64 0, .int .u8 0]) 2 16 Tryd.underlying33 HI.out hz0 hz1 hz2 rfl (by decide) _ _ _ rfl (World.ownsRow.alloc HO.out _) ⟨_, 0, none⟩ 1 1 [.int .i64 x, .int .u8 (b.toNat : Int)] rfl rfl (two_newK _ _ _ _) (fun u hu => by simp at hu; rcases hu with rfl | rfl <;> rfl) (by unfold maxLen; omega) (by omega) (by simp; omega) ?_)
        intro v' w3 hown hgrow _
        have HO3 : Hid (OwnK w3 w.heap.size v' (fil L (cs.take (k + 1)))) := by
          rw [HTK.out]
          unfold OwnK
          rw [List.length_append, k2_append, k2_one]
          exact hown
        have hb3 := (hb.alloc hsz (.cells #[.int .i64 x, .int .u8 (b.toNat : Int)] 37)).grown hgrow (by simp; omega) (fun j hj => (HO.out.lt hj).1)
        clear hown hgrow HO hb c0 c1
        go_wp2
        go_roundw
        case rel => exact ⟨k + 1, by omega, by go_num, HO3, hb3⟩
        case measure => simp [intOf]; omega
      · have d1 : decide (x < 0) = false := decide_eq_false hneg
        obtain ⟨m, rfl⟩ : ∃ m : Nat, x = (m : Int) := ⟨x.toNat, by omega⟩
        have hm : m < L.length := by omega
        obtain ⟨z, hz⟩ : ∃ z, L[m]? = some z := ⟨L[m], List.getElem?_eq_getElem hm⟩
        obtain ⟨g2, off2, rfl, q2⟩ := HC2.out m _ hz
        have e2 := cell_later7 hb (Nat.le_refl _) q2
        have gl2 : g2 < wr.heap.size := World.block_lt_of_cell? wr ⟨g2, _, none⟩ e2
        have hgd : L.getD m 0 = z := by rw [List.getD_eq_getElem?_getD, hz]; rfl
        clear q2 hz hin
        by_cases hz0' : z = 0
        · subst hz0'
          have HK := Hid.mk7 (fil_keep (L := L) (c := ((m : Int), b)) (Or.inr (by rw [show (((m : Int), b) : Ce).1.toNat = m from by simp]; exact hgd)))
          rw [HK.out] at HTK
          clear HK hgd
          go_wp2_with (at_builtin; refine wpList_append_own _ rfl _ _ 33 rfl w.heap.size 37 i0 (.agg #[.int .i64 0, .int .u8 0]) 2 16 Tryd.underlying33 HI.out hz0 hz1 hz2 rfl (by decide) _ _ _ rfl (World.ownsRow.alloc HO.out _) ⟨_, 0, none⟩ 1 1 [.int .i64 (m : Int), .int .u8 (b.toNat : Int)] rfl rfl (two_newK _ _ _ _) (fun u hu => by simp at hu; rcases hu with rfl | rfl <;> rfl) (by unfold maxLen; omega) (by omega) (by simp; omega) ?_)
          intro v' w3 hown hgrow _
          have HO3 : Hid (OwnK w3 w.heap.size v' (fil L (cs.take (k + 1)))) := by
            rw [HTK.out]
            unfold OwnK
            rw [List.length_append, k2_append, k2_one]
            exact hown
          have hb3 := (hb.alloc hsz (.cells #[.int .i64 (m : Int), .int .u8 (b.toNat : Int)] 37)).grown hgrow (by simp; omega) (fun j hj => (HO.out.lt hj).1)
          clear hown hgrow HO hb c0 c1
          go_wp2
          go_roundw
          case rel => exact ⟨k + 1, by omega, by go_num, HO3, hb3⟩
          case measure => simp [intOf]; omega
        · have HK := Hid.mk7 (fil_go (L := L) (c := ((m : Int), b)) (by simp only; omega) (by rw [show (((m : Int), b) : Ce).1.toNat = m from by simp, hgd]; exact hz0'))
          rw [HK.out, List.append_nil] at HTK
          have f1 : (z == 0) = false := by simpa using hz0'
          have f2 : decide (z = 0) = false := decide_eq_false hz0'
          have HO2 : Hid (OwnK wr w.heap.size u5 (fil L (cs.take (k + 1)))) := by rw [HTK.out]; exact HO.out
          clear HK hgd HO
          go_wp2
          go_roundw
          case rel => exact ⟨k + 1, by omega, by go_num, HO2, hb⟩
          case measure => simp [intOf]; omega
    · obtain rfl : k = cs.length := by omega
      have HE : Hid (KAt wr u5 (fil L cs)) := by have := HO.out.row; rw [List.take_length] at this; exact this
      clear HO
      go_wp2
      go_ret
      exact ⟨_, rfl, HE.out, hb⟩
end Go.Proofs.YtalolaajcmndeaaDoor
