/- compose's All: of deltas that fit. -/
import Derived.Test.YtiienebioebjpaaDoorComTwoP
namespace Go.Proofs.YtiienebioebjpaaDoor
open Go.RowKit Go.Sort
set_option linter.unusedSimpArgs false
set_option linter.unusedVariables false

/-- A delta: its base, its elements. -/
abbrev Dt := Int × List El
/-- Deltas lie in memory. -/
def DAt (w : World) (v : Value) (ds : List Dt) : Prop :=
  ∃ a cap, v = .slice a ds.length cap ∧ ds.length ≤ cap ∧ ∀ i d, ds[i]? = some d → ∃ g off u, a = some ⟨g, off, none⟩ ∧ w.cell? ⟨g, off + i * 2, none⟩ = some (.int .i64 d.1) ∧ w.cell? ⟨g, off + i * 2 + 1, none⟩ = some u ∧ ElAt w u d.2
theorem DAt.later {w w' : World} {v : Value} {ds : List Dt} (h : DAt w v ds) (hb : Below w.heap.size w w') : DAt w' v ds := by
  obtain ⟨a, cap, e, hc, h⟩ := h
  refine ⟨a, cap, e, hc, fun i d hd => ?_⟩
  obtain ⟨g, off, u, ea, h1, h2, h3⟩ := h i d hd
  exact ⟨g, off, u, ea, cell_later7 hb (Nat.le_refl _) h1, cell_later7 hb (Nat.le_refl _) h2, h3.later hb⟩
/-- One behind the other: what they make together; that it can be. -/
def allE : List El → List Dt → List El
  | E, [] => E
  | E, d :: ds => allE (tld (twoC (cel E) (cel d.2))) ds
def AllOk (base : Int) : List El → List Dt → Prop
  | E, [] => isB base E = true
  | E, d :: ds => isB base E = true ∧ isB d.1 d.2 = true ∧ d.1 = ((cel E).length : Nat) ∧ AllOk base (tld (twoC (cel E) (cel d.2))) ds
theorem AllOk.hd {base : Int} {E : List El} : ∀ {ds : List Dt}, AllOk base E ds → isB base E = true
  | [], h => h
  | _ :: _, h => h.1
theorem isB_vl {base : Int} {E : List El} (h : isB base E = true) : vldB E = true ∧ E.length ≤ 60 := by
  have hd := dl_of h
  exact ⟨List.all_eq_true.2 hd.vl, hd.len⟩
/-- What All's loop hands on. -/
structure Aw (w wr : World) (gz : Nat) (base : Int) (E : List El) : Prop where
  ex : ∃ a c, Rd wr gz (.int .i64 base) (.slice a E.length c) ∧ ElAt wr (.slice a E.length c) E
  rr : Rd wr w.heap.size (.int .i64 0) (.slice none 0 0)
  be : Below w.heap.size w wr
  gg : w.heap.size < gz
set_option maxHeartbeats 4000000 in
set_option maxRecDepth 100000 in
theorem all_nil {w : World} {a : Option Addr} {cap : Nat} :
    Calls Tryd.prog 23 #[.slice a 0 cap] w fun e w' => ∃ v', e = .returned (.tuple #[.agg #[.int .i64 0, v'], .int .i64 0]) ∧ ElAt w' v' [] ∧ Below w.heap.size w w' := by
  have BX := Hid.mk7 (below_newE (Below.refl w.heap.size w) (.cells #[.int .i64 0, .slice none 0 0] 24))
  have RR := Hid.mk7 (Rd.new w (.int .i64 0) (.slice none 0 0))
  go_enter Tryd.func23, Tryd.ntmps23
  go_wp2_with fail
  refine (keep_v (m := 0) (es := []) 0 (by decide) (by decide) _).mono ?_
  rintro e w1 ⟨kv, rfl, hk, b1⟩
  obtain ⟨ka, kc, rfl, _, _, _⟩ := id hk
  have R1 := Hid.mk7 (RR.out.later b1)
  have G1 := Hid.mk7 (BX.out.trans (b1.mono BX.out.size))
  have K1 := Hid.mk7 (hk.set_del R1.out (.int .i64 0) (.slice ka 0 kc))
  have hlt := R1.out.lt
  have c0 := R1.out.c0
  have c1 := R1.out.c1
  have fz := R1.out.fz
  clear hk b1 RR BX
  go_wp2
  exact bodyPost_ret (results_del2 rfl _ _ w.heap.size _ _ _ rfl rfl (R1.out.set _ _)) rfl ⟨_, rfl, K1.out, below_set2 G1.out (Nat.le_refl _) _ _⟩
set_option maxHeartbeats 8000000 in
set_option maxRecDepth 100000 in
theorem all_ok {w : World} {v : Value} {base : Int} {ds : List Dt} {K Z : List El} {tb : Nat × Nat} (hd : DAt w v ds) (hl : ds.length ≤ 1000) (hpos : 0 < ds.length) (hb : ∀ d, ds[0]? = some d → d.1 = base) (hK : elG base [] 0 [] = K) (ok : AllOk base K ds) (hz : allE K ds = Z) (hT : Tab w tb) :
    Calls Tryd.prog 23 #[v] w fun e w' => ∃ v', e = .returned (.tuple #[.agg #[.int .i64 base, v'], .int .i64 0]) ∧ ElAt w' v' Z ∧ Below w.heap.size w w' := by
  have hbi := dl_of ok.hd
  have hb0 := hbi.b0
  have hb1 := hbi.b1
  have BX := Hid.mk7 (below_newE (Below.refl w.heap.size w) (.cells #[.int .i64 0, .slice none 0 0] 24))
  have RR := Hid.mk7 (Rd.new w (.int .i64 0) (.slice none 0 0))
  have HKV := Hid.mk7 (fun W => keep_v (m := base) (es := K) base (by omega) hK W)
  obtain ⟨a, cap, rfl, hcap, hcells⟩ := hd
  have HC := Hid.mk7 hcells
  have HOK := Hid.mk7 ok
  have HZ := Hid.mk7 hz
  have HT := Hid.mk7 hT
  obtain ⟨d0, hd0⟩ : ∃ d, ds[0]? = some d := ⟨ds[0], List.getElem?_eq_getElem hpos⟩
  have hbb := hb d0 hd0
  obtain ⟨g, off, u0, rfl, q0, _, _⟩ := hcells 0 d0 hd0
  rw [hbb, Nat.zero_mul, Nat.add_zero] at q0
  have c0 := cell_later7 BX.out (Nat.le_refl _) q0
  have hp0 : ((ds.length : Int) == 0) = false := beq_eq_false_iff_ne.2 (by omega)
  have hp1 : decide ((ds.length : Int) = 0) = false := decide_eq_false (by omega)
  have hp2 : (ds.length == 0) = false := beq_eq_false_iff_ne.2 (by omega)
  clear hb hd0 hbb hcells q0 hbi ok hz hK hT
  go_enter Tryd.func23, Tryd.ntmps23
  go_wp2_with fail
  refine (HKV.out _).mono ?_
  rintro e w1 ⟨kv, rfl, hk, b1⟩
  obtain ⟨ka, kc, rfl, _, _, _⟩ := id hk
  have G1 := Hid.mk7 (BX.out.trans (b1.mono BX.out.size))
  have hsz1 : w.heap.size < w1.heap.size := by have h1 := b1.size; have h2 := RR.out.lt; omega
  have HAW : Hid (Aw w (w1.alloc (.cells #[.int .i64 base, .slice ka K.length kc] 24)) w1.heap.size base K) :=
    ⟨⟨ka, kc, Rd.new _ _ _, hk.alloc _⟩, (RR.out.later b1).alloc _, G1.out.alloc G1.out.size _, hsz1⟩
  clear hk b1 RR BX c0 HKV G1
  go_wp2
  generalize hgz : w1.heap.size = gz at *
  generalize w1.alloc (.cells #[.int .i64 base, .slice ka K.length kc] 24) = W1 at *
  clear hgz
  go_loopw [19] (fun iv wr => ∃ (k : Nat) (E : List El), k ≤ ds.length ∧ iv = .int .i64 (k : Nat) ∧ Hid (AllOk base E (ds.drop k) ∧ allE E (ds.drop k) = Z) ∧ Hid (Aw w wr gz base E)) (fun iv _ => ds.length - (intOf iv).toNat)
  case atStart => exact ⟨0, K, Nat.zero_le _, rfl, ⟨by rw [List.drop_zero]; exact HOK.out, by rw [List.drop_zero]; exact HZ.out⟩, HAW⟩
  case round =>
    clear HOK HZ HAW
    obtain ⟨k, E, hk, rfl, HP, HE⟩ := hrel
    obtain ⟨ea, ec, hr1, he1⟩ := HE.out.ex
    have R1 := Hid.mk7 hr1
    have E1 := Hid.mk7 he1
    have hgg := HE.out.gg
    have G1 := Hid.mk7 HE.out.be
    have RR1 := Hid.mk7 HE.out.rr
    clear hr1 he1 HE
    by_cases hlt : k < ds.length
    · obtain ⟨⟨b, es⟩, hr⟩ : ∃ r, ds[k]? = some r := ⟨ds[k], List.getElem?_eq_getElem hlt⟩
      obtain ⟨g', off', u, e', q0, q1, he⟩ := HC.out k _ hr
      cases e'
      obtain ⟨va, vc, rfl, _, _, _⟩ := id he
      have c0 := cell_later7 G1.out (Nat.le_refl _) q0
      have c1 := cell_later7 G1.out (Nat.le_refl _) q1
      have hdr : ds.drop k = (b, es) :: ds.drop (k + 1) := drop_consB hr
      have hp := HP.out
      rw [hdr] at hp
      obtain ⟨⟨o1, o2, o3, o4⟩, hz⟩ := hp
      simp only at o2 o3 o4
      have HN : Hid (AllOk base (tld (twoC (cel E) (cel es))) (ds.drop (k + 1)) ∧ allE (tld (twoC (cel E) (cel es))) (ds.drop (k + 1)) = Z) := ⟨o4, hz⟩
      obtain ⟨F, hF⟩ : ∃ F, tld (twoC (cel E) (cel es)) = F := ⟨_, rfl⟩
      have hv := isB_vl (base := base) (E := tld (twoC (cel E) (cel es))) (AllOk.hd o4)
      have hrs := rs_good (base := base) hv.1 hv.2
      have HTW := Hid.mk7 (fun (W : World) (u v : Value) (h : ElAt W u E) (k : ElAt W v es) (t : Tab W tb) => two_rs o1 o2 o3 hrs h k t)
      rw [hF] at HN HTW
      have U1 := Hid.mk7 ((he.later G1.out).alloc (.cells #[.int .i64 b, .slice va es.length vc] 24))
      have E2 := Hid.mk7 (E1.out.alloc (.cells #[.int .i64 b, .slice va es.length vc] 24))
      have R2 := Hid.mk7 (R1.out.alloc (.cells #[.int .i64 b, .slice va es.length vc] 24))
      have RR2 := Hid.mk7 (RR1.out.alloc (.cells #[.int .i64 b, .slice va es.length vc] 24))
      have G2 := Hid.mk7 (G1.out.alloc G1.out.size (.cells #[.int .i64 b, .slice va es.length vc] 24))
      have D2 := Hid.mk7 (Rd.new wr (.int .i64 b) (.slice va es.length vc))
      have T2 := Hid.mk7 (HT.out.later G2.out)
      simp only at c0 c1
      clear o1 o2 o3 o4 hz hF hv hrs hr q0 q1 he hdr HP E1 R1 RR1 G1
      go_upto_region 7 with fail
      generalize hz2 : wr.heap.size = z2 at *
      generalize wr.alloc (.cells #[.int .i64 b, .slice va es.length vc] 24) = W2 at *
      have r0 := R2.out.c0
      have r1 := R2.out.c1
      have d0 := D2.out.c0
      have d1 := D2.out.c1
      clear c0 c1
      go_wp2_with fail
      refine (HTW.out _ _ _ E2.out U1.out T2.out).mono ?_
      rintro e w3 ⟨v3, rfl, h3, b3⟩
      obtain ⟨xa, xc, rfl, _, _, _⟩ := id h3
      have R3 := Hid.mk7 (R2.out.later b3)
      have RR3 := Hid.mk7 (RR2.out.later b3)
      have G3 := Hid.mk7 (G2.out.trans (b3.mono G2.out.size))
      have HAW : Hid (Aw w ((w3.setCell ⟨gz, 0, none⟩ (.int .i64 base)).setCell ⟨gz, 1, none⟩ (.slice xa F.length xc)) gz base F) :=
        ⟨⟨xa, xc, R3.out.set _ _, h3.set_del R3.out _ _⟩, RR3.out.otherF (by omega) _ _, below_set2 G3.out (by omega) _ _, hgg⟩
      have hlt3 := R3.out.lt
      have r0' := R3.out.c0
      have r1' := R3.out.c1
      have fz := R3.out.fz
      clear r0 r1 d0 d1 h3 b3 R2 RR2 G2 HTW D2 U1 E2 T2
      go_wp2
      go_roundw
      case rel => exact ⟨k + 1, F, by omega, by go_num, HN, HAW⟩
      case measure => simp [intOf]; omega
    · obtain rfl : k = ds.length := by omega
      have HZ : Hid (E = Z) := by
        have := HP.out.2
        rw [List.drop_length] at this
        exact this
      have E2 := Hid.mk7 (E1.out.set_del RR1.out (.int .i64 base) (.slice ea E.length ec))
      have hlt2 := RR1.out.lt
      have r0 := R1.out.c0
      have r1 := R1.out.c1
      have c0 := RR1.out.c0
      have c1 := RR1.out.c1
      have fz := RR1.out.fz
      clear HP E1
      go_wp2
      exact bodyPost_ret (results_del2 rfl _ _ w.heap.size _ _ _ rfl rfl (RR1.out.set _ _)) rfl ⟨_, rfl, by rw [← HZ.out]; exact E2.out, below_set2 G1.out (Nat.le_refl _) _ _⟩
end Go.Proofs.YtiienebioebjpaaDoor
