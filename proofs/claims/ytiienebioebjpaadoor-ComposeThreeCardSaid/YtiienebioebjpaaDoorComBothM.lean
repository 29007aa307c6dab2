/- Deltas that were built one behind the other; rows of deltas of one's own (layer 13). -/
import Derived.Test.YtiienebioebjpaaDoorComAll
import Derived.Test.YtiienebioebjpaaDoorComKeep
import Derived.Test.YtiienebioebjpaaDoorComUndoes
namespace Go.Proofs.YtiienebioebjpaaDoor
open Go.RowKit Go.Sort Go.Lib
set_option linter.unusedSimpArgs false
set_option linter.unusedVariables false

theorem allOk_snoc {base : Int} : ∀ {ds : List Dt} {K E : List El} {d : Dt}, AllOk base K ds → allE K ds = E → isB d.1 d.2 = true → d.1 = ((cel E).length : Nat) → isB base (tld (twoC (cel E) (cel d.2))) = true → AllOk base K (ds ++ [d]) ∧ allE K (ds ++ [d]) = tld (twoC (cel E) (cel d.2))
  | [], K, E, d, h, hE, h1, h2, h3 => by
    obtain rfl : K = E := hE
    exact ⟨⟨h, h1, h2, h3⟩, rfl⟩
  | c :: ds, K, E, d, h, hE, h1, h2, h3 => by
    have ih := allOk_snoc (ds := ds) (K := tld (twoC (cel K) (cel c.2))) h.2.2.2 hE h1 h2 h3
    exact ⟨⟨h.1, h.2.1, h.2.2.1, ih.1⟩, ih.2⟩
theorem elG_one {n f q : Int} {T : List UInt8} : (elG n [] 0 [(f, q, T)]).length ≤ 60 := by
  have h0 : ∀ T : List UInt8, (tx T).length ≤ 1 := fun T => by unfold tx; split <;> simp
  have h1 : ∀ (U : List UInt8) (e : Int), (elG n U e []).length ≤ 2 := fun U e => by
    simp only [elG, List.length_append]
    have := h0 U
    split <;> simp <;> omega
  have h2 := h0 []
  simp only [elG]
  split
  · have := h1 [] 0
    simp only [elG] at this
    omega
  · split
    · have := h1 T q
      simp only [elG] at this
      simp only [List.length_append, List.length_cons]
      simp only [List.length_append] at this
      omega
    · have := h1 ([] ++ T) q
      simp only [elG] at this
      omega
/-- One change more: the delta that makes it, and both together. -/
theorem both_step {s : List UInt8} {tB : ByteArray} {E : List El} {f q : Int} {T : List UInt8} (hi : isB (s.length : Nat) E = true) (ho : ∀ e ∈ E, Ok1 s e) (ht : apl (cel E) s = tB.data.toList) (hf : flt (tB.size : Nat) [(f, q, T)] = 0)
    (h1 : edg tB f = true) (h2 : edg tB q = true) (hm : E.length + 2 ≤ 60) (hsz : (cel E).length + T.length ≤ 20000) :
    ∃ D E', elG (tB.size : Nat) [] 0 [(f, q, T)] = D ∧ isB (tB.size : Nat) D = true ∧ (tB.size : Int) = ((cel E).length : Nat) ∧ tld (twoC (cel E) (cel D)) = E' ∧ isB (s.length : Nat) E' = true ∧ (∀ e ∈ E', Ok1 s e) ∧ E'.length ≤ E.length + 2 ∧
      apl (cel E') s = apl (cel D) tB.data.toList ∧ (cel E').length ≤ (cel E).length + T.length ∧ (cel E').length = (apl (cel D) tB.data.toList).length := by
  have g := gd_of hf
  have hw := of_decide_eq_true (List.all_eq_true.1 g.wt (f, q, T) (by simp))
  simp only at hw
  have hv : vld T = true := List.all_eq_true.1 g.vl (f, q, T) (by simp)
  have hlen : (cel E).length = tB.size := by
    have := congrArg List.length ht
    rw [apl_len] at this
    rw [this]; rfl
  obtain ⟨p', rfl⟩ : ∃ n : Nat, f = (n : Int) := ⟨f.toNat, by omega⟩
  obtain ⟨q', rfl⟩ : ∃ n : Nat, q = (n : Int) := ⟨q.toNat, by omega⟩
  obtain ⟨_, vp, _⟩ := edge_cut h1
  obtain ⟨_, vq, _⟩ := edge_cut h2
  have hD := isB_elG hf elG_one
  have hcD : cel (elG (tB.size : Nat) [] 0 [((p' : Int), (q' : Int), T)]) = bce (cel E).length 0 [((p' : Int), (q' : Int), T)] := by
    rw [cel_elG _ [] 0 g.ch, hlen]; simp [ownT]
  obtain ⟨E', e1, e2, e3, e4, e5, e6⟩ := step_two (T := T) hi ho (p := p') (q := q') (by omega) (by omega) (by rw [ht]; exact vp) (by rw [ht]; exact vq) hv hsz hm
  refine ⟨_, E', rfl, hD, by omega, by rw [hcD]; exact e1, e2, e3, e4, ?_, ?_, ?_⟩
  · have hup := up_cel _ 0 0 (Int.le_refl _) (dl_of hD).nm
    have hin : InC (cel E).length (cel (elG (tB.size : Nat) [] 0 [((p' : Int), (q' : Int), T)])) := up_inC hup (by omega)
    rw [← ht, ← apl_two hin, hcD, ← e1]
    have u1 := two_up hi hD (by omega : ((tB.size : Nat) : Int) = ((cel E).length : Nat))
    rw [hcD] at u1
    rw [cel_tld_up u1]
  · rw [e5]
    simp only [List.length_append, List.length_take, List.length_drop, own_len]
    omega
  · have u1 := two_up hi hD (by omega : ((tB.size : Nat) : Int) = ((cel E).length : Nat))
    rw [hcD] at u1
    rw [apl_len, ← e1, cel_tld_up u1, twoC_len, hcD]
theorem keep_ok1 {s : List UInt8} (hv : vld s = true) : (∀ e ∈ KE (s.length : Nat), Ok1 s e) ∧ (KE (s.length : Nat)).length ≤ 1 ∧ apl (cel (KE (s.length : Nat))) s = s := by
  refine ⟨?_, ?_, ?_⟩
  · intro e he
    simp only [KE, elG] at he
    have h0 : tx ([] : List UInt8) = [] := rfl
    rw [h0, List.nil_append] at he
    split at he
    · rename_i hp
      simp only [List.mem_singleton] at he
      subst he
      refine ok1_copy (Int.le_refl _) hp (Int.le_refl _) ?_
      simpa using hv
    · cases he
  · simp only [KE, elG]
    have h0 : tx ([] : List UInt8) = [] := rfl
    rw [h0, List.nil_append]
    split <;> simp
  · rw [cel_KE (by omega), apl_rng (Int.le_refl _) (by omega) (Int.le_refl _)]
    simp
theorem OwnE.mono0 {w : World} {B : Nat} {v : Value} {es : List El} (h : OwnE w B v es) : OwnE w 0 v es := by
  refine ⟨h.1, h.2.imp id ?_⟩
  rintro ⟨g, cap, cur, h1, h2, h3⟩
  exact ⟨g, cap, cur, h1, Nat.zero_le _, h3⟩
set_option maxHeartbeats 2000000 in
set_option maxRecDepth 100000 in
theorem build_own {w : World} {v : Value} {l : List El} (base : Int) (h : ElAt w v l) (hsm : Sm l 281474976710656) (hl : l.length ≤ 1000) (hin : inS l ≤ 100000) (tb : Nat × Nat) (hT : Tab w tb) (hf : flt base l = 0) (hm : (elG base [] 0 l).length ≤ 60) :
    Calls Tryd.prog 21 #[.int .i64 base, v] w fun e w' => ∃ v', e = .returned (.tuple #[.agg #[.int .i64 base, v'], .int .i64 0]) ∧ OwnE w' 0 v' (elG base [] 0 l) ∧ RowKit.Below w.heap.size w w' := by
  have HB := Hid.mk7 (below_newE (RowKit.Below.refl w.heap.size w) (.cells #[.int .i64 0, .slice none 0 0] 24))
  have HR := Hid.mk7 (Rd.new w (.int .i64 0) (.slice none 0 0))
  have HF := Hid.mk7 (fault_any base (h.later HB.out) hsm hl tb (hT.later HB.out))
  have HV := Hid.mk7 (h.later HB.out)
  have hsz : w.heap.size < (w.alloc (.cells #[.int .i64 0, .slice none 0 0] 24)).heap.size := by simp
  rw [hf] at HF
  clear h hT
  obtain ⟨es, HE⟩ : ∃ es, Hid (elG base [] 0 l = es) := ⟨_, rfl⟩
  rw [HE.out] at hm ⊢
  go_enter Tryd.func21, Tryd.ntmps21
  go_wp2_with fail
  refine HF.out.mono ?_
  rintro e w1 ⟨rfl, b1⟩
  have HR1 := Hid.mk7 (HR.out.later b1)
  have HB1 := Hid.mk7 (HB.out.trans (b1.mono HB.out.size))
  have HEL := Hid.mk7 (elements_any base (HV.out.later b1) hl hin)
  have hsz1 : w.heap.size < w1.heap.size := by have := b1.size; omega
  clear b1
  go_wp2_with fail
  refine HEL.out.mono ?_
  rintro e w2 ⟨v2, rfl, o2, b2⟩
  rw [HE.out] at o2
  obtain ⟨a2, cap2, rfl, hc2, _⟩ := own_shapeE o2
  have HR2 := HR1.out.later b2
  have HB2 := Hid.mk7 (HB1.out.trans (b2.mono HB1.out.size))
  have HO2 := Hid.mk7 o2
  have fz := HR2.fz
  have hlt := HR2.lt
  have r0 := HR2.c0
  have r1 := HR2.c1
  clear o2 b2
  go_wp2
  refine bodyPost_ret (results_del2 rfl _ _ w.heap.size _ _ _ rfl rfl (HR2.set _ _)) rfl ?_
  exact ⟨_, rfl, (HO2.out.set2 (g := w.heap.size) hsz1 _ _).mono0, below_set2 HB2.out (Nat.le_refl _) _ _⟩
/-- Deltas as cells. -/
def dcs (ds : List Dt) (us : List Value) : List Value := (ds.zip us).flatMap fun x => [.int .i64 x.1.1, x.2]
theorem dcs_snoc {ds : List Dt} {us : List Value} (h : us.length = ds.length) (d : Dt) (u : Value) : dcs (ds ++ [d]) (us ++ [u]) = dcs ds us ++ [.int .i64 d.1, u] := by
  unfold dcs
  rw [List.zip_append (by omega)]
  simp
theorem dcs_get : ∀ {ds : List Dt} {us : List Value} {i : Nat} {d : Dt} {u : Value}, ds[i]? = some d → us[i]? = some u → (dcs ds us)[i * 2]? = some (.int .i64 d.1) ∧ (dcs ds us)[i * 2 + 1]? = some u
  | q :: ds, x :: us, 0, d, u, h, k => by simp at h k; subst h k; simp [dcs]
  | q :: ds, x :: us, i + 1, d, u, h, k => by
    have ih := dcs_get (ds := ds) (us := us) (i := i) (by simpa using h) (by simpa using k)
    have e : dcs (q :: ds) (x :: us) = .int .i64 q.1 :: x :: dcs ds us := by simp [dcs]
    rw [e, show (i + 1) * 2 = i * 2 + 1 + 1 from by omega]
    refine ⟨by simpa using ih.1, ?_⟩
    rw [show i * 2 + 1 + 1 + 1 = (i * 2 + 1) + 1 + 1 from rfl]
    simpa using ih.2
/-- A row of deltas of one's own. -/
def OwnD (w : World) (B : Nat) (v : Value) (ds : List Dt) : Prop :=
  ∃ us : List Value, us.length = ds.length ∧ w.ownsRow B 24 2 v ds.length (dcs ds us) ∧ ∀ (i : Nat) (d : Dt) (u : Value), ds[i]? = some d → us[i]? = some u → OwnE w 0 u d.2
theorem OwnD.nil (w : World) (B : Nat) : OwnD w B (.slice none 0 0) [] := ⟨[], rfl, World.ownsRow_nil _ _ _ _, fun i d u h => by simp at h⟩
theorem OwnD.later {w w' : World} {B : Nat} {v : Value} {ds : List Dt} (h : OwnD w B v ds) (hb : RowKit.Below w.heap.size w w') : OwnD w' B v ds := by
  obtain ⟨us, h1, h2, h3⟩ := h
  refine ⟨us, h1, ⟨h2.1, h2.2.imp id ?_⟩, fun i d u a b => (h3 i d u a b).later hb⟩
  rintro ⟨g, cap, cur, e1, e2, e3, e4⟩
  exact ⟨g, cap, cur, e1, e2, (hb.block g (Array.getElem?_eq_some_iff.1 e3).1).trans e3, e4⟩
theorem OwnD.row {w : World} {B : Nat} {v : Value} {ds : List Dt} (h : OwnD w B v ds) : DAt w v ds := by
  obtain ⟨us, h1, h2, h3⟩ := h
  rcases id h2.2 with ⟨e1, e2⟩ | ⟨g, cap, cur, e1, _, e3, e4, _⟩
  · obtain rfl : ds = [] := List.eq_nil_of_length_eq_zero e2
    exact ⟨none, 0, e1, Nat.le_refl _, fun i d hd => by simp at hd⟩
  · refine ⟨some ⟨g, 0, none⟩, cap, e1, e4, fun i d hd => ?_⟩
    have hil := (List.getElem?_eq_some_iff.1 hd).1
    obtain ⟨u, hu⟩ : ∃ u, us[i]? = some u := ⟨us[i]'(by omega), List.getElem?_eq_getElem _⟩
    obtain ⟨d1, d2⟩ := dcs_get hd hu
    have hg := World.ownsRow.cells h2 (g := g) (by rw [e1]; rfl)
    have f1 := hg _ _ d1
    have f2 := hg _ _ d2
    rw [addr_add7] at f1 f2
    refine ⟨g, 0, u, rfl, f1, ?_, (h3 i d u hd hu).row⟩
    rw [Nat.add_assoc]
    exact f2
theorem ownE_apart {w : World} {B B' n : Nat} {u v : Value} {es : List El} {xs : List Value} (k : OwnE w B u es) (h : w.ownsRow B' 24 2 v n xs) : u.ownBlock = none ∨ u.ownBlock ≠ v.ownBlock := by
  rcases k.2 with ⟨k1, _⟩ | ⟨g, cap, cur, k1, _, k3, _⟩
  · left; rw [k1]; rfl
  · right
    rcases h.2 with ⟨h1, _⟩ | ⟨g', cap', cur', h1, _, h3, _⟩
    · rw [k1, h1]; intro e; cases e
    · rw [k1, h1]
      intro e
      obtain rfl : g = g' := Option.some.inj e
      rw [k3] at h3
      have := congrArg (fun o => match o with | some (Obj.cells _ t _) => t | _ => 0) h3
      simp at this
theorem Tryd.info_dl : (Tryd.prog.info? 24).map (fun i => (i.zero, i.size, i.bytes)) = some (some (.agg #[.int .i64 0, .slice none 0 0]), 2, 32) := by kernel_rfl
/-- One delta more. -/
theorem ownD_push {w w' : World} {B : Nat} {v v' : Value} {ds : List Dt} {us : List Value} {d : Dt} {u : Value} (hu : us.length = ds.length) (h3 : ∀ (i : Nat) (d : Dt) (u : Value), ds[i]? = some d → us[i]? = some u → OwnE w 0 u d.2) (ho : w.ownsRow B 24 2 v ds.length (dcs ds us)) (hd : OwnE w 0 u d.2)
    (hown : w'.ownsRow B 24 2 v' (ds.length + 1) (dcs ds us ++ [.int .i64 d.1, u])) (hg : w.grownBy w' v.ownBlock) : OwnD w' B v' (ds ++ [d]) := by
  refine ⟨us ++ [u], by simp [hu], ?_, ?_⟩
  · rw [List.length_append, dcs_snoc hu]
    exact hown
  · intro i d' u' h1 h2
    by_cases hi : i < ds.length
    · rw [List.getElem?_append_left hi] at h1
      rw [List.getElem?_append_left (by omega)] at h2
      have := h3 i d' u' h1 h2
      exact this.kept hg (ownE_apart this ho)
    · have hil := (List.getElem?_eq_some_iff.1 h1).1
      simp at hil
      obtain rfl : i = ds.length := by omega
      rw [List.getElem?_append_right (Nat.le_refl _)] at h1
      rw [List.getElem?_append_right (by omega)] at h2
      simp at h1
      simp [hu] at h2
      subst h1 h2
      exact hd.kept hg (ownE_apart hd ho)
end Go.Proofs.YtiienebioebjpaaDoor
