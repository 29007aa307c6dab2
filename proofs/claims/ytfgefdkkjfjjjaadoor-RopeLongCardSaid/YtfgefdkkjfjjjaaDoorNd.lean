/- A node of the tree in memory; single, parent. -/
import Derived.Test.YtfgefdkkjfjjjaaDoorMem5
import Derived.Test.YtfgefdkkjfjjjaaDoorTurns
import Derived.Deep.QuietTactic
import Derived.BigQuiet
namespace Go.Proofs.YtfgefdkkjfjjjaaDoor
open Go.RowKit Go.Sort
set_option linter.unusedSimpArgs false
set_option linter.unusedVariables false

/-- Pointers to nodes, one behind the other. -/
def Ptrs (w : World) (kb off : Nat) (gs : List Nat) : Prop := ∀ (i g : Nat), gs[i]? = some g → w.cell? ⟨kb, off + i, none⟩ = some (.pointer (some ⟨g, 0, none⟩))
/-- The cells of a node. -/
def NdC (E : Env) (w : World) (g d : Nat) (ls : List ByteArray) (s : ByteArray) (kids : Value) : Prop :=
  ∃ z0 z1 x0 x1 x2 x3 : Int, Rt 98 w g #[.int .i64 z0, .int .i64 z1, .int .i64 x0, .int .i64 x1, .int .i64 x2, .int .i64 x3, .string s, kids] ∧ z0 = (d : Int) + 1 ∧ z1 = (ls.length : Int) ∧ E.KR ls x0 x1 x2 x3
/-- The node g, d levels above its leaves, stands for these leaves; all its memory lies in blocks of A. -/
def NdA (E : Env) (A : Nat → Prop) (w : World) : Nat → Nat → List ByteArray → Prop
  | 0, g, ls => A g ∧ ∃ s, ls = [s] ∧ NdC E w g 0 ls s (.slice none 0 0)
  | d + 1, g, ls => A g ∧ ∃ (ks : List (Nat × List ByteArray)) (kb off cap : Nat), A kb ∧ ks.length ≤ cap ∧ 2 ≤ ks.length ∧ ks.length ≤ 3 ∧ (∀ k ∈ ks, NdA E A w d k.1 k.2) ∧ ls = ks.flatMap Prod.snd ∧
      NdC E w g (d + 1) ls ⟨#[]⟩ (.slice (some ⟨kb, off, none⟩) ks.length cap) ∧ Ptrs w kb off (ks.map Prod.fst)
/-- Wherever its memory lies. -/
def Nd (E : Env) (w : World) (d g : Nat) (ls : List ByteArray) : Prop := NdA E (fun _ => True) w d g ls
theorem cell_lt {w : World} {b o : Nat} {v : Value} (h : w.cell? ⟨b, o, none⟩ = some v) : b < w.heap.size := by
  rcases Nat.lt_or_ge b w.heap.size with h1 | h1
  · exact h1
  · simp [World.cell?, Array.getElem?_eq_none h1] at h
theorem cell_same {w w' : World} {b o : Nat} {v : Value} (h : w.cell? ⟨b, o, none⟩ = some v) (e : w'.heap[b]? = w.heap[b]?) : w'.cell? ⟨b, o, none⟩ = some v := by
  unfold World.cell? at h ⊢
  simp only [e]
  exact h
theorem cell_after {w w' : World} {b o : Nat} {v : Value} (h : w.cell? ⟨b, o, none⟩ = some v) (hb : Below w.heap.size w w') : w'.cell? ⟨b, o, none⟩ = some v := cell_same h (hb.block b (cell_lt h))
theorem Ptrs.same {w w' : World} {kb off : Nat} {gs : List Nat} (h : Ptrs w kb off gs) (e : w'.heap[kb]? = w.heap[kb]?) : Ptrs w' kb off gs := fun i g q => cell_same (h i g q) e
theorem Ptrs.later {w w' : World} {kb off : Nat} {gs : List Nat} (h : Ptrs w kb off gs) (hb : Below w.heap.size w w') : Ptrs w' kb off gs := fun i g e => cell_after (h i g e) hb
theorem NdC.same {E : Env} {w w' : World} {g d : Nat} {ls : List ByteArray} {s : ByteArray} {kids : Value} (h : NdC E w g d ls s kids) (e : w'.heap[g]? = w.heap[g]?) : NdC E w' g d ls s kids := by
  obtain ⟨z0, z1, x0, x1, x2, x3, hr, h⟩ := h
  exact ⟨z0, z1, x0, x1, x2, x3, e.trans hr, h⟩
theorem NdC.lt {E : Env} {w : World} {g d : Nat} {ls : List ByteArray} {s : ByteArray} {kids : Value} (h : NdC E w g d ls s kids) : g < w.heap.size := by
  obtain ⟨_, _, _, _, _, _, hr, _⟩ := h
  exact hr.lt
theorem ks_ptr {w : World} {kb off : Nat} {ks : List (Nat × List ByteArray)} (h2 : 2 ≤ ks.length) (hp : Ptrs w kb off (ks.map Prod.fst)) : kb < w.heap.size := by
  match ks, h2 with
  | a :: b :: r, _ => exact cell_lt (hp 0 a.1 (by simp))
/-- It stays where what it lies in stays. -/
theorem NdA.keep {E : Env} {A : Nat → Prop} {w w' : World} (hs : ∀ b, A b → b < w.heap.size → w'.heap[b]? = w.heap[b]?) : ∀ {d g : Nat} {ls : List ByteArray}, NdA E A w d g ls → NdA E A w' d g ls
  | 0, _, _, ⟨ha, s, e, h⟩ => ⟨ha, s, e, h.same (hs _ ha h.lt)⟩
  | _ + 1, _, _, ⟨ha, ks, kb, off, cap, hkb, hc, h2, h3, hk, e, h, hp⟩ => ⟨ha, ks, kb, off, cap, hkb, hc, h2, h3, fun k hm => NdA.keep hs (hk k hm), e, h.same (hs _ ha h.lt), hp.same (hs _ hkb (ks_ptr h2 hp))⟩
theorem NdA.mono {E : Env} {A B : Nat → Prop} {w : World} (hs : ∀ b, A b → b < w.heap.size → B b) : ∀ {d g : Nat} {ls : List ByteArray}, NdA E A w d g ls → NdA E B w d g ls
  | 0, _, _, ⟨ha, s, e, h⟩ => ⟨hs _ ha h.lt, s, e, h⟩
  | _ + 1, _, _, ⟨ha, ks, kb, off, cap, hkb, hc, h2, h3, hk, e, h, hp⟩ => ⟨hs _ ha h.lt, ks, kb, off, cap, hs _ hkb (ks_ptr h2 hp), hc, h2, h3, fun k hm => NdA.mono hs (hk k hm), e, h, hp⟩
theorem NdA.later {E : Env} {A : Nat → Prop} {w w' : World} (hb : Below w.heap.size w w') {d g : Nat} {ls : List ByteArray} (h : NdA E A w d g ls) : NdA E A w' d g ls := h.keep fun b _ hl => hb.block b hl
theorem Nd.later {E : Env} {w w' : World} (hb : Below w.heap.size w w') {d g : Nat} {ls : List ByteArray} (h : Nd E w d g ls) : Nd E w' d g ls := NdA.later hb h
theorem NdA.nd {E : Env} {A : Nat → Prop} {w : World} {d g : Nat} {ls : List ByteArray} (h : NdA E A w d g ls) : Nd E w d g ls := h.mono fun _ _ _ => trivial
theorem Nd.old {E : Env} {w : World} {B : Nat → Prop} (hs : ∀ b, b < w.heap.size → B b) {d g : Nat} {ls : List ByteArray} (h : Nd E w d g ls) : NdA E B w d g ls := NdA.mono (fun b _ hl => hs b hl) h
theorem NdA.head {E : Env} {A : Nat → Prop} {w : World} : ∀ {d g : Nat} {ls : List ByteArray}, NdA E A w d g ls → ∃ s kids, NdC E w g d ls s kids
  | 0, _, _, ⟨_, s, _, h⟩ => ⟨s, _, h⟩
  | _ + 1, _, _, ⟨_, _, _, _, _, _, _, _, _, _, _, h, _⟩ => ⟨_, _, h⟩
theorem NdA.lt {E : Env} {A : Nat → Prop} {w : World} {d g : Nat} {ls : List ByteArray} (h : NdA E A w d g ls) : g < w.heap.size := by
  obtain ⟨_, _, h⟩ := h.head
  exact h.lt
/-- All that a walk reads of a node's head. -/
theorem NdA.cells {E : Env} {A : Nat → Prop} {w : World} {d g : Nat} {ls : List ByteArray} (h : NdA E A w d g ls) : w.cell? ⟨g, 0, none⟩ = some (.int .i64 ((d : Int) + 1)) ∧ w.cell? ⟨g, 1, none⟩ = some (.int .i64 (ls.length : Int)) ∧
    ∃ x0 x1 x2 x3, E.KR ls x0 x1 x2 x3 ∧ w.cell? ⟨g, 2, none⟩ = some (.int .i64 x0) ∧ w.cell? ⟨g, 3, none⟩ = some (.int .i64 x1) ∧ w.cell? ⟨g, 4, none⟩ = some (.int .i64 x2) ∧ w.cell? ⟨g, 5, none⟩ = some (.int .i64 x3) := by
  obtain ⟨_, _, z0, z1, x0, x1, x2, x3, hr, rfl, rfl, hk⟩ := h.head
  exact ⟨hr.cell 0, hr.cell 1, x0, x1, x2, x3, hk, hr.cell 2, hr.cell 3, hr.cell 4, hr.cell 5⟩
theorem NdA.ge {E : Env} {A : Nat → Prop} {w : World} : ∀ {d g : Nat} {ls : List ByteArray}, NdA E A w d g ls → d + 1 ≤ ls.length
  | 0, _, _, ⟨_, _, e, _⟩ => by subst e; simp
  | d + 1, _, _, ⟨_, ks, _, _, _, _, _, h2, _, hk, e, _, _⟩ => by
    subst e
    match ks, h2 with
    | a :: b :: r, _ =>
      have ha := NdA.ge (hk a (by simp))
      have hb := NdA.ge (hk b (by simp))
      simp only [List.flatMap_cons, List.length_append]
      omega
theorem NdA.kids {E : Env} {A : Nat → Prop} {w : World} {d g : Nat} {ls : List ByteArray} (h : NdA E A w (d + 1) g ls) : ∃ (ks : List (Nat × List ByteArray)) (kb off cap : Nat), ks.length ≤ cap ∧ 2 ≤ ks.length ∧ ks.length ≤ 3 ∧ (∀ k ∈ ks, NdA E A w d k.1 k.2) ∧ ls = ks.flatMap Prod.snd ∧
      w.cell? ⟨g, 7, none⟩ = some (.slice (some ⟨kb, off, none⟩) ks.length cap) ∧ Ptrs w kb off (ks.map Prod.fst) := by
  obtain ⟨_, ks, kb, off, cap, _, hc, h2, h3, hk, e, ⟨_, _, _, _, _, _, hr, _⟩, hp⟩ := h
  exact ⟨ks, kb, off, cap, hc, h2, h3, hk, e, hr.cell 7, hp⟩
theorem NdA.leaf {E : Env} {A : Nat → Prop} {w : World} {g : Nat} {ls : List ByteArray} (h : NdA E A w 0 g ls) : ∃ s, ls = [s] ∧ w.cell? ⟨g, 6, none⟩ = some (.string s) ∧ w.cell? ⟨g, 7, none⟩ = some (.slice none 0 0) := by
  obtain ⟨_, s, e, _, _, _, _, _, _, hr, _⟩ := h
  exact ⟨s, e, hr.cell 6, hr.cell 7⟩

set_option maxHeartbeats 1000000 in
set_option maxRecDepth 100000 in
/-- single. -/
theorem single_any (E : Env) (A : Nat → Prop) (s : ByteArray) (hD : E.D s) (w : World) (hA : ∀ b, w.heap.size ≤ b → A b) (hT : E.Tb w) :
    Calls Tryd.prog 70 #[.string s] w fun e w' => ∃ g, e = .returned (.pointer (some ⟨g, 0, none⟩)) ∧ w.heap.size ≤ g ∧ NdA E A w' 0 g [s] ∧ Below w.heap.size w w' := by
  have hm : ∀ w : World, (method 248 73 (.string s) "Sum").run Tryd.prog w = .ok (99, .string s) w := fun _ => by kernel_rfl
  have HC : Hid (∀ W, E.Tb W → Calls Tryd.prog 99 #[.string s] W fun e w' => ∃ x0 x1 x2 x3, e = .returned (.agg #[.int .i64 x0, .int .i64 x1, .int .i64 x2, .int .i64 x3]) ∧ E.KR [s] x0 x1 x2 x3 ∧ Below W.heap.size W w') := fun W h => csum_any E s hD W h
  go_enter Tryd.func70, Tryd.ntmps70
  go_wp2_with fail
  refine (HC.out _ hT).mono ?_
  rintro e w1 ⟨x0, x1, x2, x3, rfl, hk, b1⟩
  have HK := Hid.mk4 hk
  clear hk hm HC
  go_wp2
  go_ret
  exact ⟨_, rfl, b1.size, ⟨hA _ b1.size, s, rfl, 1, 1, x0, x1, x2, x3, Rt.new _ w1 _, by simp, by simp, HK.out⟩, b1.alloc b1.size _⟩

theorem take_flat {ks : List (Nat × List ByteArray)} {i : Nat} {k : Nat × List ByteArray} (h : ks[i]? = some k) : (ks.take (i + 1)).flatMap Prod.snd = (ks.take i).flatMap Prod.snd ++ k.2 := by
  obtain ⟨hi, rfl⟩ := List.getElem?_eq_some_iff.1 h
  rw [List.take_succ_eq_append_getElem hi, List.flatMap_append]
  simp
theorem take_flat_le (ks : List (Nat × List ByteArray)) (i : Nat) : ((ks.take i).flatMap Prod.snd).length ≤ (ks.flatMap Prod.snd).length := by
  conv => rhs; rw [← List.take_append_drop i ks, List.flatMap_append, List.length_append]
  omega

set_option maxHeartbeats 2000000 in
set_option maxRecDepth 100000 in
/-- parent. -/
theorem parent_any (E : Env) (A : Nat → Prop) (d : Nat) (ks : List (Nat × List ByteArray)) (kb off cap : Nat) (w : World) (h2 : 2 ≤ ks.length) (h3 : ks.length ≤ 3) (hd : d ≤ 1099511627776) (hl : (ks.flatMap Prod.snd).length ≤ 1099511627776)
    (hc : ks.length ≤ cap) (hA : ∀ b, w.heap.size ≤ b → A b) (hkb : A kb) (hN : ∀ k ∈ ks, NdA E A w d k.1 k.2) (hP : Ptrs w kb off (ks.map Prod.fst)) :
    Calls Tryd.prog 77 #[.slice (some ⟨kb, off, none⟩) ks.length cap] w fun e w' => ∃ g, e = .returned (.pointer (some ⟨g, 0, none⟩)) ∧ w.heap.size ≤ g ∧ NdA E A w' (d + 1) g (ks.flatMap Prod.snd) ∧ Below w.heap.size w w' := by
  have HN := Hid.mk4 hN
  have HP := Hid.mk4 hP
  have HL := Hid.mk4 hl
  have HA := Hid.mk4 hA
  have HKB := Hid.mk4 hkb
  obtain ⟨k0, hk0⟩ : ∃ k, ks[0]? = some k := ⟨ks[0], List.getElem?_eq_getElem (by omega)⟩
  have p0 : w.cell? ⟨kb, off, none⟩ = some (.pointer (some ⟨k0.1, 0, none⟩)) := hP 0 _ (by simp [hk0])
  have d0 := (hN k0 (List.mem_of_getElem? hk0)).cells.1
  clear hN hP hl hk0 hA hkb
  have hlen : 0 < ks.length := by omega
  go_enter Tryd.func77, Tryd.ntmps77
  go_wp2
  go_loopw [18] (fun j wr => ∃ (i : Nat) (z1 x0 x1 x2 x3 : Int), i ≤ ks.length ∧ j = .int .i64 (i : Nat) ∧ Hid (Rt 98 wr w.heap.size #[.int .i64 ((d : Int) + 1 + 1), .int .i64 z1, .int .i64 x0, .int .i64 x1, .int .i64 x2, .int .i64 x3, .string ⟨#[]⟩, .slice (some ⟨kb, off, none⟩) ks.length cap]) ∧ Hid (z1 = (((ks.take i).flatMap Prod.snd).length : Int)) ∧ Hid (E.KR ((ks.take i).flatMap Prod.snd) x0 x1 x2 x3) ∧ Below w.heap.size w wr) (fun j _ => ks.length - (intOf j).toNat)
  case atStart =>
    exact ⟨0, 0, 0, 0, 0, 0, by omega, rfl, Rt.new _ w _, rfl, E.zero, (Below.refl _ _).alloc (Nat.le_refl _) _⟩
  case round =>
    obtain ⟨i, z1, x0, x1, x2, x3, hi, rfl, HR, HZ, HK, hb⟩ := hrel
    clear p0 d0
    by_cases hlt : i < ks.length
    · obtain ⟨k, hk⟩ : ∃ k, ks[i]? = some k := ⟨ks[i], List.getElem?_eq_getElem hlt⟩
      have pk : wr.cell? ⟨kb, off + i, none⟩ = some (.pointer (some ⟨k.1, 0, none⟩)) := cell_after (HP.out i _ (by simp [hk])) hb
      have nk := (HN.out k (List.mem_of_getElem? hk)).later hb
      have hkl := (HN.out k (List.mem_of_getElem? hk)).lt
      obtain ⟨_, s1, y0, y1, y2, y3, KY, s2, s3, s4, s5⟩ := nk.cells
      have HY := Hid.mk4 KY
      have HT := Hid.mk4 (take_flat hk)
      have hbd := take_flat_le ks (i + 1)
      rw [HT.out, List.length_append] at hbd
      have hbd2 := HL.out
      have hzr : 0 ≤ z1 ∧ z1 + (k.2.length : Int) ≤ 1099511627776 := by have := HZ.out; omega
      have HZ2 : Hid (z1 + (k.2.length : Int) = (((ks.take (i + 1)).flatMap Prod.snd).length : Int)) := by show _ = _; rw [HT.out, List.length_append, HZ.out]; omega
      clear nk KY hbd hbd2
      have c1 := HR.out.cell 1; have c2 := HR.out.cell 2; have c3 := HR.out.cell 3; have c4 := HR.out.cell 4; have c5 := HR.out.cell 5
      have fz := HR.out.fz
      have hrl := HR.out.lt
      go_wp2
      have z1' := cell_regrown c1
      have q1 := cell_regrown s1
      refine wp_region_below_last (by kernel_rfl) (by kernel_rfl) (by kernel_rfl) ?_
      simp only [mute, idle, lastOf]
      clear c1 c2 c3 c4 c5 s1 s2 s3 s4 s5 fz pk
      repeat (go_big_quiet_step (fail))
      refine wpQuiet_nil ?_
      intro _ hw'
      obtain ⟨⟨dq, osq⟩, hw''⟩ := hw'
      subst hw''
      have bq := below_regrown wr dq osq
      have HR2 := Hid.mk4 (HR.out.later' bq)
      have hb2 := hb.trans (bq.mono hb.size)
      clear z1' q1 HR hb bq HZ hzr hrl
      generalize grow (redrawn wr dq) osq = w6 at *
      have fz := HR2.out.fz
      have c1 := HR2.out.cell 1
      have hrl := HR2.out.lt
      go_wp2
      have HR3 : Hid (Rt 98 (w6.setCell ⟨w.heap.size, 1, none⟩ (.int .i64 (z1 + (k.2.length : Int)))) w.heap.size #[.int .i64 ((d : Int) + 1 + 1), .int .i64 (z1 + (k.2.length : Int)), .int .i64 x0, .int .i64 x1, .int .i64 x2, .int .i64 x3, .string ⟨#[]⟩, .slice (some ⟨kb, off, none⟩) ks.length cap]) := by
        have := HR2.out.set 1 (.int .i64 (z1 + (k.2.length : Int)))
        show Rt _ _ _ _
        simpa using this
      have hb3 : Below w.heap.size w (w6.setCell ⟨w.heap.size, 1, none⟩ (.int .i64 (z1 + (k.2.length : Int)))) := hb2.setCell (p := ⟨w.heap.size, 1, none⟩) (Nat.le_refl _) _
      clear HR2 hb2 fz c1 hrl
      generalize w6.setCell ⟨w.heap.size, 1, none⟩ (.int .i64 (z1 + (k.2.length : Int))) = w7 at *
      generalize z1 + (k.2.length : Int) = z2 at *
      obtain ⟨_, _, y0', y1', y2', y3', KY, s2, s3, s4, s5⟩ := ((HN.out k (List.mem_of_getElem? hk)).later hb3).cells
      clear HY
      have HY := Hid.mk4 KY
      clear KY
      have hm : ∀ w : World, (method 248 74 (.agg #[.int .i64 x0, .int .i64 x1, .int .i64 x2, .int .i64 x3]) "Plus").run Tryd.prog w = .ok (105, .agg #[.int .i64 x0, .int .i64 x1, .int .i64 x2, .int .i64 x3]) w := fun _ => by kernel_rfl
      have CP : Hid (∀ d os, Calls Tryd.prog 105 #[.agg #[.int .i64 x0, .int .i64 x1, .int .i64 x2, .int .i64 x3], .agg #[.int .i64 y0', .int .i64 y1', .int .i64 y2', .int .i64 y3']] (grow (redrawn w7 d) os) fun e w'' => e = .returned (.agg #[.int .i64 (wrap64 (x0 + y0')), .int .i64 (wrap64 (x1 + y1')), .int .i64 (wrap64 (x2 + y2')), .int .i64 (wrap64 (x3 + y3'))]) ∧ ∃ p : Regrown, w'' = grow (redrawn w7 p.d) p.os) :=
        fun d os => Calls.regrown_of (rplus_any x0 x1 x2 x3 y0' y1' y2' y3' _)
      have HK2 : Hid (E.KR ((ks.take (i + 1)).flatMap Prod.snd) (wrap64 (x0 + y0')) (wrap64 (x1 + y1')) (wrap64 (x2 + y2')) (wrap64 (x3 + y3'))) := by
        show E.KR _ _ _ _ _
        rw [HT.out]
        exact E.plus HK.out HY.out
      generalize wrap64 (x0 + y0') = t0 at *
      generalize wrap64 (x1 + y1') = t1 at *
      generalize wrap64 (x2 + y2') = t2 at *
      generalize wrap64 (x3 + y3') = t3 at *
      have e2 := cell_regrown (HR3.out.cell 2); have e3 := cell_regrown (HR3.out.cell 3); have e4 := cell_regrown (HR3.out.cell 4); have e5 := cell_regrown (HR3.out.cell 5)
      have r2 := cell_regrown s2; have r3 := cell_regrown s3; have r4 := cell_regrown s4; have r5 := cell_regrown s5
      refine wp_region_below_last (by kernel_rfl) (by kernel_rfl) (by kernel_rfl) ?_
      simp only [mute, idle, lastOf]
      clear s2 s3 s4 s5 HK
      repeat (go_big_quiet_step (first | (go_at_call 105; exact CP.out _ _)))

      refine wpQuiet_nil ?_
      intro _ hw'
      obtain ⟨⟨dq, osq⟩, hw''⟩ := hw'
      subst hw''
      have bq := below_regrown w7 dq osq
      have HR4 := Hid.mk4 (HR3.out.later' bq)
      have hb4 := hb3.trans (bq.mono hb3.size)
      clear e2 e3 e4 e5 r2 r3 r4 r5 HR3 hb3 bq CP hm
      generalize grow (redrawn w7 dq) osq = w8 at *
      have fz := HR4.out.fz
      have c2 := HR4.out.cell 2; have c3 := HR4.out.cell 3; have c4 := HR4.out.cell 4; have c5 := HR4.out.cell 5
      have hrl := HR4.out.lt
      go_wp2
      go_roundw
      case rel =>
        refine ⟨i + 1, z2, t0, t1, t2, t3, by omega, by go_num, ?_, HZ2, HK2, ?_⟩
        · have := (((HR4.out.set 2 (.int .i64 t0)).set 3 (.int .i64 t1)).set 4 (.int .i64 t2)).set 5 (.int .i64 t3)
          show Rt _ _ _ _
          simpa using this
        · exact (((hb4.setCell (p := ⟨w.heap.size, 2, none⟩) (Nat.le_refl _) _).setCell (p := ⟨w.heap.size, 3, none⟩) (Nat.le_refl _) _).setCell (p := ⟨w.heap.size, 4, none⟩) (Nat.le_refl _) _).setCell (p := ⟨w.heap.size, 5, none⟩) (Nat.le_refl _) _
      case measure => simp [intOf]; omega
    · obtain rfl : i = ks.length := by omega
      have HZ' := HZ.out
      have HK' := HK.out
      rw [List.take_length] at HZ' HK'
      go_wp2
      go_ret
      exact ⟨_, rfl, Nat.le_refl _, ⟨HA.out _ (Nat.le_refl _), ks, kb, off, cap, HKB.out, hc, h2, h3, fun k hk => (HN.out k hk).later hb, rfl, ⟨_, _, _, _, _, _, HR.out, by omega, HZ', HK'⟩, HP.out.later hb⟩, hb⟩
end Go.Proofs.YtfgefdkkjfjjjaaDoor
