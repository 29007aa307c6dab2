/- Bytes that are made, in memory; the reference's Cells and Apply. -/
import Derived.Test.YtafhogfbjklboaaDoorDelHelp
namespace Go.Proofs.YtafhogfbjklboaaDoor
open Go.RowKit Go.Sort Go.Lib
set_option linter.unusedSimpArgs false
set_option linter.unusedVariables false

theorem Tryd.info_ce : (Tryd.prog.info? 78).map (fun i => (i.zero, i.size, i.bytes)) = some (some (.agg #[.int .i64 0, .int .u8 0]), 2, 16) := by kernel_rfl
def k2 (cs : List Ce) : List Value := cs.flatMap fun c => [.int .i64 c.1, .int .u8 (c.2.toNat : Int)]
theorem k2_append (a b : List Ce) : k2 (a ++ b) = k2 a ++ k2 b := by simp [k2]
theorem k2_one (c : Ce) : k2 [c] = [.int .i64 c.1, .int .u8 (c.2.toNat : Int)] := by simp [k2]
theorem k2_cons (c : Ce) (cs : List Ce) : k2 (c :: cs) = .int .i64 c.1 :: .int .u8 (c.2.toNat : Int) :: k2 cs := by simp [k2]
theorem k2_length (cs : List Ce) : (k2 cs).length = cs.length * 2 := by
  induction cs with
  | nil => rfl
  | cons c cs ih => rw [k2_cons]; simp [ih]; omega
theorem k2_get : ∀ {cs : List Ce} {i : Nat} {c : Ce}, cs[i]? = some c → (k2 cs)[i * 2]? = some (.int .i64 c.1) ∧ (k2 cs)[i * 2 + 1]? = some (.int .u8 (c.2.toNat : Int))
  | q :: cs, 0, c, h => by simp at h; subst h; rw [k2_cons]; simp
  | q :: cs, i + 1, c, h => by
    have ih := k2_get (cs := cs) (i := i) (c := c) (by simpa using h)
    rw [k2_cons, show (i + 1) * 2 = i * 2 + 1 + 1 from by omega, show i * 2 + 1 + 1 + 1 = (i * 2 + 1) + 1 + 1 from rfl]
    simpa using ih
/-- A row of one's own, of these bytes that are made. -/
def OwnK (w : World) (B : Nat) (v : Value) (cs : List Ce) : Prop := w.ownsRow B 78 2 v cs.length (k2 cs)
/-- They lie in memory. -/
def KAt (w : World) (v : Value) (cs : List Ce) : Prop :=
  ∃ a cap, v = .slice a cs.length cap ∧ cs.length ≤ cap ∧ ∀ i c, cs[i]? = some c → ∃ g off, a = some ⟨g, off, none⟩ ∧ w.cell? ⟨g, off + i * 2, none⟩ = some (.int .i64 c.1) ∧ w.cell? ⟨g, off + i * 2 + 1, none⟩ = some (.int .u8 (c.2.toNat : Int))
theorem KAt.later {w w' : World} {v : Value} {cs : List Ce} (h : KAt w v cs) (hb : RowKit.Below w.heap.size w w') : KAt w' v cs := by
  obtain ⟨a, cap, e, hc, h⟩ := h
  refine ⟨a, cap, e, hc, fun i r hr => ?_⟩
  obtain ⟨g, off, ea, h1, h2⟩ := h i r hr
  exact ⟨g, off, ea, cell_later7 hb (Nat.le_refl _) h1, cell_later7 hb (Nat.le_refl _) h2⟩
theorem OwnK.row {w : World} {B : Nat} {v : Value} {cs : List Ce} (h : OwnK w B v cs) : KAt w v cs := by
  rcases h.2 with ⟨h1, h2⟩ | ⟨g, cap, cur, h1, _, h3, h4, _⟩
  · obtain rfl : cs = [] := List.eq_nil_of_length_eq_zero h2
    rw [h1]; exact ⟨none, 0, rfl, Nat.le_refl _, fun i r h => by simp at h⟩
  · refine ⟨some ⟨g, 0, none⟩, cap, h1, h4, fun i r hr => ⟨g, 0, rfl, ?_⟩⟩
    have hg := World.ownsRow.cells h (g := g) (by rw [h1]; rfl)
    obtain ⟨e1, e2⟩ := k2_get hr
    have f1 := hg _ _ e1
    have f2 := hg _ _ e2
    rw [addr_add7] at f1 f2
    rw [Nat.add_assoc]
    exact ⟨f1, f2⟩
theorem OwnK.nil (w : World) (B : Nat) : OwnK w B (.slice none 0 0) [] := World.ownsRow_nil _ _ _ _
theorem OwnK.alloc {w : World} {B : Nat} {v : Value} {cs : List Ce} (h : OwnK w B v cs) (o : Obj) : OwnK (w.alloc o) B v cs := World.ownsRow.alloc h o
theorem OwnK.lt {w : World} {B : Nat} {v : Value} {cs : List Ce} (h : OwnK w B v cs) {g : Nat} (hg : v.ownBlock = some g) : B ≤ g ∧ g < w.heap.size := World.ownsRow.lt h g hg
theorem OwnK.later {w w' : World} {B : Nat} {v : Value} {cs : List Ce} (h : OwnK w B v cs) (hb : RowKit.Below w.heap.size w w') : OwnK w' B v cs := by
  refine ⟨h.1, h.2.imp id ?_⟩
  rintro ⟨g, cap, cur, h1, h2, h3, h4⟩
  exact ⟨g, cap, cur, h1, h2, (hb.block g (Array.getElem?_eq_some_iff.1 h3).1).trans h3, h4⟩
theorem Re.grown {w w' : World} {row : Option Nat} {g : Nat} {x y z : Value} (h : Re w g x y z) (hg : w.grownBy w' row) (hne : some g ≠ row) : Re w' g x y z := (hg.block g h.lt hne).trans h
theorem rng_get {f t : Int} {i : Nat} (h : f + i < t) : (rng f t)[i]? = some (f + i, 0) := by
  have : i < (t - f).toNat := by omega
  simp [rng, this]
theorem ownT_snoc {T : List UInt8} {i : Nat} (h : i < T.length) : ownT (T.take (i + 1)) = ownT (T.take i) ++ [(-1, T[i])] := by
  rw [List.take_add_one, List.getElem?_eq_getElem h]; unfold ownT; rw [List.map_append]; rfl
theorem cel_take {es : List El} {k : Nat} {e : El} (hr : es[k]? = some e) : cel (es.take (k + 1)) = cel (es.take k) ++ ce1 e := by
  rw [take_snoc7 hr, cel_append]; simp [cel]
theorem OwnK.mono {w : World} {B B' : Nat} {v : Value} {cs : List Ce} (h : OwnK w B v cs) (hB : B' ≤ B) : OwnK w B' v cs := by
  refine ⟨h.1, h.2.imp id ?_⟩
  rintro ⟨g, cap, cur, h1, h2, h3⟩
  exact ⟨g, cap, cur, h1, by omega, h3⟩
theorem two_newK (w : World) (x y : Value) (e : TypeId) : ∀ (j : Nat) (u : Value), ([x, y] : List Value)[j]? = some u → (w.alloc (.cells #[x, y] e)).cell? ((⟨w.heap.size, 0, none⟩ : Addr).add j) = some u := by
  intro j u h
  rw [addr_add7, World.cell?_alloc_new]
  match j, h with
  | 0, h => simpa using h
  | 1, h => simpa using h
/-- What the loops hand on. -/
structure Kc (W0 : World) (wr : World) (eb : Nat) (f t : Int) (s : ByteArray) (v : Value) (cs : List Ce) : Prop where
  own : OwnK wr W0.heap.size v cs
  re : Re wr eb (.int .i64 f) (.int .i64 t) (.string s)
  ne : ∀ j, v.ownBlock = some j → j ≠ eb
  be : RowKit.Below W0.heap.size W0 wr
theorem Kc.push {W0 wr w3 : World} {eb : Nat} {f t : Int} {s : ByteArray} {v : Value} {cs : List Ce} {c : Ce} {x y : Value} {gg cap2 : Nat} {o : Obj} (h : Kc W0 wr eb f t s v cs)
    (hown : w3.ownsRow W0.heap.size 78 2 (.slice (some ⟨gg, 0, none⟩) (cs.length + 1) cap2) (cs.length + 1) (k2 cs ++ [x, y])) (hgrow : (wr.alloc o).grownBy w3 v.ownBlock)
    (hat : v.ownBlock = some gg ∨ gg = (wr.alloc o).heap.size) (hx : x = .int .i64 c.1) (hy : y = .int .u8 (c.2.toNat : Int)) :
    Kc W0 w3 eb f t s (.slice (some ⟨gg, 0, none⟩) (cs.length + 1) cap2) (cs ++ [c]) := by
  subst hx hy
  refine ⟨?_, (h.re.alloc o).grown hgrow (fun e => h.ne eb e.symm rfl), ?_, (h.be.alloc h.be.size o).grown hgrow (h.be.alloc h.be.size o).size (fun j hj => (h.own.lt hj).1)⟩
  · unfold OwnK
    rw [List.length_append, k2_append, k2_one]
    exact hown
  · intro j hj e
    obtain rfl : gg = j := Option.some.inj hj
    rcases hat with h1 | h1
    · exact h.ne gg h1 e
    · have := h.re.lt
      simp at h1
      omega
set_option maxHeartbeats 8000000 in
set_option maxRecDepth 100000 in
theorem rcells_any {w : World} {v : Value} {es : List El} (base : Int) (h : ElAt w v es) (hd : Dl base es) :
    Calls Tryd.prog 36 #[.agg #[.int .i64 base, v]] w fun e w' => ∃ v', e = .returned v' ∧ OwnK w' w.heap.size v' (cel es) ∧ RowKit.Below w.heap.size w w' := by
  obtain ⟨i0, hi, hz0, hz1, hz2⟩ := info_parts Tryd.info_ce
  have HI := Hid.mk7 hi
  obtain ⟨a, cap, rfl, _⟩ := id h
  have BB := Hid.mk7 (below_newE (RowKit.Below.refl w.heap.size w) (.cells #[.int .i64 base, .slice a es.length cap] 25))
  have RD := Hid.mk7 (Rd.new w (.int .i64 base) (.slice a es.length cap))
  have HV := Hid.mk7 (h.alloc (.cells #[.int .i64 base, .slice a es.length cap] 25))
  have HD := Hid.mk7 hd
  have hlen := hd.len
  have hct := cel_size es 0 0 hd.nm
  have htot : (cel es).length ≤ 20000 := by have := hd.sz; rw [szE_two] at hct; omega
  have HTOT := Hid.mk7 htot
  clear h hi hct htot hd
  obtain ⟨_, _, hve, _, _, hcells⟩ := id HV.out
  cases hve
  have HC := Hid.mk7 hcells
  clear hcells HV
  have r1 := RD.out.c1
  have hw0 : w.heap.size < (w.alloc (.cells #[.int .i64 base, .slice a es.length cap] 25)).heap.size := by simp
  go_enter Tryd.func36, Tryd.ntmps36
  go_wp2_with fail
  generalize w.alloc (.cells #[.int .i64 base, .slice a es.length cap] 25) = W0 at *
  go_wp2
  go_loopw [3, 4] (fun lv iv wr => ∃ k : Nat, k ≤ es.length ∧ iv = .int .i64 (k : Nat) ∧ Hid (OwnK wr W0.heap.size lv (cel (es.take k))) ∧ Hid (RowKit.Below W0.heap.size W0 wr)) (fun _ iv _ => es.length - (intOf iv).toNat)
  case atStart => exact ⟨0, Nat.zero_le _, rfl, OwnK.nil _ _, RowKit.Below.refl _ _⟩
  case round =>
    obtain ⟨k, hk, rfl, HO, HB⟩ := hrel
    have RDk := Hid.mk7 (RD.out.later HB.out)
    have s1 := RDk.out.c1
    have gz := RDk.out.lt
    clear r1
    by_cases hlt : k < es.length
    · obtain ⟨⟨f, t, T⟩, hr⟩ : ∃ r, es[k]? = some r := ⟨es[k], List.getElem?_eq_getElem hlt⟩
      obtain ⟨g, off, rfl, q0, q1, q2⟩ := HC.out k _ hr
      have c0 := cell_later7 HB.out (Nat.le_refl _) q0
      have c1 := cell_later7 HB.out (Nat.le_refl _) q1
      have c2 := cell_later7 HB.out (Nat.le_refl _) q2
      simp only at c0 c1 c2
      have gl : g < wr.heap.size := World.block_lt_of_cell? wr ⟨g, _, none⟩ c0
      have hbd := HD.out.bd _ (List.mem_of_getElem? hr)
      simp only at hbd
      have HCT := Hid.mk7 (cel_take hr)
      have hroom : (cel (es.take k)).length + T.length + (t - f).toNat ≤ 20000 := by
        have h1 := HTOT.out
        have h2 : cel es = cel (es.take k) ++ (ce1 (f, t, T) ++ cel (es.drop (k + 1))) := by
          conv => lhs; rw [← List.take_append_drop k es, drop_consE hr]
          rw [cel_append, cel_cons]
        rw [h2] at h1
        simp only [List.length_append, ce1, own_len, rng_len] at h1
        omega
      have HRM := Hid.mk7 hroom
      have KC : Hid (Kc W0 (wr.alloc (.cells #[.int .i64 f, .int .i64 t, .string (cacc T)] 55)) wr.heap.size f t (cacc T) u3 (cel (es.take k))) :=
        ⟨HO.out.alloc _, Re.new wr _ _ _, fun j hj e => by have := (HO.out.lt hj).2; omega, HB.out.alloc HB.out.size _⟩
      have hcs : (cacc T).size = T.length := cacc_size T
      obtain ⟨s, HS⟩ : ∃ s, Hid (s = cacc T) := ⟨_, rfl⟩
      rw [← HS.out] at KC hcs c2
      obtain ⟨C0, HC0⟩ : ∃ C0, Hid (C0 = cel (es.take k)) := ⟨_, rfl⟩
      rw [← HC0.out] at KC HCT
      have hroom2 : C0.length + T.length + (t - f).toNat ≤ 20000 := by rw [HC0.out]; exact hroom
      clear q0 q1 q2 hr HO HB hroom HRM
      generalize hTl : T.length = Tl at *
      have HTL := Hid.mk7 hTl
      clear hTl
      go_wp2_with fail
      generalize wr.alloc (.cells #[.int .i64 f, .int .i64 t, .string s] 55) = W1 at *
      generalize wr.heap.size = eb at *
      clear c0 c1 c2
      have e2 := KC.out.re.c2
      go_wp2
      go_loopw [3, 6] (fun lv jv wx => ∃ j : Nat, j ≤ Tl ∧ jv = .int .i64 (j : Nat) ∧ Hid (Kc W0 wx eb f t s lv (C0 ++ ownT (T.take j)))) (fun _ jv _ => Tl - (intOf jv).toNat)
      case atStart => exact ⟨0, Nat.zero_le _, rfl, by show Kc _ _ _ _ _ _ _ _; have := KC.out; simpa [ownT] using this⟩
      case round =>
        obtain ⟨j, hj, rfl, KX⟩ := hrel
        have m2 := KX.out.re.c2
        have wz := KX.out.be.size
        clear e2
        by_cases hjt : j < Tl
        · have hjT : j < T.length := by rw [HTL.out]; exact hjt
          have HSN := Hid.mk7 (ownT_snoc hjT)
          have HSJ : Hid (∀ h : j < s.size, s[j] = T[j]) := fun h => by have e := HS.out; subst e; rfl
          obtain ⟨C1, HC1⟩ : ∃ C1, Hid (C1 = C0 ++ ownT (T.take j)) := ⟨_, rfl⟩
          have hl1 : C1.length + 1 ≤ 20000 := by rw [HC1.out, List.length_append, own_len, List.length_take]; omega
          rw [← HC1.out] at KX
          go_wp2_with (at_builtin; refine wpList_append_lies _ rfl _ _ 63 rfl W0.heap.size 78 i0 (.agg #[.int .i64 0, .int .u8 0]) 2 16 Tryd.underlying63 HI.out hz0 hz1 hz2 rfl (by decide) _ _ _ rfl (World.ownsRow.alloc KX.out.own _) ⟨_, 0, none⟩ 1 1 [.int .i64 (-1), .int .u8 ((s[j]).toNat : Int)] rfl rfl (two_newK _ _ _ _) (fun u hu => by simp at hu; rcases hu with rfl | rfl <;> rfl) (by omega) (by unfold maxLen; omega) (by omega) (by simp; omega) _ rfl ?_)
          intro gg cap2 w3 hown hgrow hat hlt2
          have KY := Hid.mk7 (KX.out.push (c := (-1, T[j])) hown hgrow (by simpa using hat) rfl (by rw [HSJ.out]))
          have HE1 : Hid (C1 ++ [(-1, T[j])] = C0 ++ ownT (T.take (j + 1))) := by show _ = _; rw [HSN.out, HC1.out, List.append_assoc]
          rw [HE1.out] at KY
          clear hown hgrow hat hlt2 HSN HSJ HE1 m2 KX
          go_wp2
          go_roundw
          case rel => exact ⟨j + 1, by omega, by go_num, KY⟩
          case measure => simp [intOf]; omega
        · obtain rfl : j = Tl := by omega
          have HOT : Hid (ownT (T.take j) = ownT T) := by show _ = _; rw [← HTL.out, List.take_length]
          rw [HOT.out] at KX
          obtain ⟨C1, HC1⟩ : ∃ C1, Hid (C1 = C0 ++ ownT T) := ⟨_, rfl⟩
          have hl1 : C1.length + (t - f).toNat ≤ 20000 := by rw [HC1.out, List.length_append, own_len, HTL.out]; omega
          rw [← HC1.out] at KX
          have m0 := KX.out.re.c0
          have m1 := KX.out.re.c1
          clear HOT HC
          go_wp2
          go_loopw [3, 7] (fun lv jv wx => ∃ i : Nat, f + i ≤ t ∧ jv = .int .i64 (f + (i : Nat)) ∧ Hid (Kc W0 wx eb f t s lv (C1 ++ rng f (f + (i : Nat))))) (fun _ jv _ => (t - intOf jv).toNat)
          case atStart => exact ⟨0, by omega, by simp, by show Kc _ _ _ _ _ _ _ _; have := KX.out; simpa [rng_none] using this⟩
          case round =>
            obtain ⟨i, hi, rfl, KX⟩ := hrel
            have n1 := KX.out.re.c1
            have wz := KX.out.be.size
            clear m0 m1 m2
            by_cases hit : f + (i : Nat) < t
            · have HSN := Hid.mk7 (rng_snoc (f := f) (t := f + (i : Nat)) (by omega))
              obtain ⟨C2, HC2⟩ : ∃ C2, Hid (C2 = C1 ++ rng f (f + (i : Nat))) := ⟨_, rfl⟩
              have hl2 : C2.length + 1 ≤ 20000 := by rw [HC2.out, List.length_append, rng_len]; omega
              rw [← HC2.out] at KX
              go_wp2_with (at_builtin; refine wpList_append_lies _ rfl _ _ 63 rfl W0.heap.size 78 i0 (.agg #[.int .i64 0, .int .u8 0]) 2 16 Tryd.underlying63 HI.out hz0 hz1 hz2 rfl (by decide) _ _ _ rfl (World.ownsRow.alloc KX.out.own _) ⟨_, 0, none⟩ 1 1 [.int .i64 (f + (i : Nat)), .int .u8 0] rfl rfl (two_newK _ _ _ _) (fun u hu => by simp at hu; rcases hu with rfl | rfl <;> rfl) (by omega) (by unfold maxLen; omega) (by omega) (by simp; omega) _ rfl ?_)
              intro gg cap2 w3 hown hgrow hat hlt2
              have KY := Hid.mk7 (KX.out.push (c := (f + (i : Nat), 0)) hown hgrow (by simpa using hat) rfl rfl)
              have HE1 : Hid (C2 ++ [(f + (i : Nat), 0)] = C1 ++ rng f (f + ((i + 1 : Nat) : Int))) := by show _ = _; rw [show f + ((i + 1 : Nat) : Int) = f + (i : Nat) + 1 by omega, HSN.out, HC2.out, List.append_assoc]
              rw [HE1.out] at KY
              clear hown hgrow hat hlt2 HSN HE1 n1 KX
              go_wp2
              go_roundw
              case rel => exact ⟨i + 1, by omega, by go_num, KY⟩
              case measure => simp [intOf]; omega
            · have HE1 : Hid (C1 ++ rng f (f + (i : Nat)) = cel (es.take (k + 1))) := by
                show _ = _
                rw [HCT.out, HC1.out, show f + ((i : Nat) : Int) = t by omega, List.append_assoc]
                rfl
              rw [HE1.out] at KX
              have HO2 := Hid.mk7 KX.out.own
              have HB2 := Hid.mk7 KX.out.be
              clear HE1 KX
              go_wp2
              go_roundw
              case rel => exact ⟨k + 1, by omega, by go_num, HO2, HB2⟩
              case measure => simp [intOf]; omega
    · obtain rfl : k = es.length := by omega
      have HE : Hid (cel (es.take es.length) = cel es) := by show _ = _; rw [List.take_length]
      rw [HE.out] at HO
      go_wp2
      go_ret
      exact ⟨_, rfl, HO.out.mono (by omega), BB.out.trans (HB.out.mono BB.out.size)⟩
end Go.Proofs.YtafhogfbjklboaaDoor
