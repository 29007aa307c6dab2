/- A region that draws its order, whose last operation waits for all others: where it is put aside, and all others only read (callees may make memory), one walk in the order of the text is enough; the last operation is walked behind it. A region that draws its order and holds calls (or other operations that make memory) which stand in one chain: all else only reads: one walk is enough, in an order of our own choosing in which whatever reads comes as soon as it may. A region that draws its order: first what only reads, then whatever may come up, one by one. -/
import Derived.Test.YtafhogfbjklboaaDoorRows
import Derived.Deep.Quiet
import Derived.Lib.QuietBelow
namespace Go.Proofs.YtafhogfbjklboaaDoor
open Go Go.Sort
set_option linter.unusedSimpArgs false
set_option linter.unusedVariables false

/-- The operation, put aside: it hands on a value that nobody asks for. -/
def idle (z : Oper) : Oper := { z with op := .move (.const (.bool true)) }
/-- A row of operations, the last one put aside. -/
def mute : List Oper → List Oper
  | [] => []
  | [z] => [idle z]
  | o :: p :: r => o :: mute (p :: r)
def lastOf : List Oper → List Oper
  | [] => []
  | [z] => [z]
  | _ :: p :: r => lastOf (p :: r)
theorem mute_split : ∀ l : List Oper, l ≠ [] → ∃ h z, l = h ++ [z] ∧ mute l = h ++ [idle z] ∧ lastOf l = [z]
  | [], hn => absurd rfl hn
  | [z], _ => ⟨[], z, rfl, rfl, rfl⟩
  | o :: p :: r, _ => by
    obtain ⟨h, z, e1, e2, e3⟩ := mute_split (p :: r) (by simp)
    exact ⟨o :: h, z, by rw [e1]; rfl, by show o :: mute (p :: r) = _; rw [e2]; rfl, e3⟩

/-- What is asked of a region: its last operation stands under no guard, leaves nothing, waits for every other one; whatever waits, waits for what stands ahead of it. -/
def lastB (l : List Oper) : Bool :=
  match lastOf l with
  | [z] => z.guard.isNone && z.dst.isNone && ((List.range (l.length - 1)).all fun i => (z.after.any fun e => Region.binds .any e && e.on == i) || (z.after.any fun e => Region.binds .any e && match l[e.on]? with | some o => (o.after.any fun e2 => Region.binds .any e2 && e2.on == i) | none => false)) &&
      ((List.range l.length).all fun i => match l[i]? with | some o => o.after.all fun e => !Region.binds .any e || decide (e.on < i) | none => true)
  | _ => false

theorem first_false (p : Nat → Bool) : ∀ n, p n = false → ∃ i, i ≤ n ∧ p i = false ∧ ∀ j, j < i → p j = true := by
  intro n
  induction n using Nat.strongRecOn with
  | _ n ih =>
    intro hn
    rcases Classical.em (∃ j, j < n ∧ p j = false) with ⟨j, hj, hp⟩ | hno
    · obtain ⟨i, hi, h⟩ := ih j hj hp
      exact ⟨i, by omega, h⟩
    · exact ⟨n, Nat.le_refl _, hn, fun j hj => by cases hp : p j with | true => rfl | false => exact absurd ⟨j, hj, hp⟩ hno⟩

theorem marked {listed : Array Bool} {i : Nat} (hi : i < listed.size) (h : listed.getD i true = true) : listed.getD i false = true := by
  simp [hi] at h ⊢; exact h

section
variable {P : Program} {C : World → Prop} {h : List Oper} {z : Oper}

theorem at_head (y : Oper) {i : Nat} (hi : i < h.length) : (h ++ [y]).toArray[i]? = h[i]? := by
  rw [List.getElem?_toArray, List.getElem?_append_left hi]
theorem at_last (y : Oper) : (h ++ [y]).toArray[h.length]? = some y := by simp
theorem at_none (y : Oper) {i : Nat} (hi : h.length < i) : (h ++ [y]).toArray[i]? = none := by
  rw [List.getElem?_toArray]
  exact List.getElem?_eq_none (by simp; omega)

/-- Any property that doesn't look at what an operation does is the same of both rows. -/
theorem same_of {α : Type} (f : Oper → α) (hf : f (idle z) = f z) (i : Nat) : ((h ++ [idle z]).toArray[i]?).map f = ((h ++ [z]).toArray[i]?).map f := by
  rcases Nat.lt_trichotomy i h.length with hi | hi | hi
  · rw [at_head _ hi, at_head _ hi]
  · subst hi; rw [at_last, at_last]; simp [hf]
  · rw [at_none _ hi, at_none _ hi]
theorem ready_same (listed : Array Bool) : Region.ready .any (h ++ [idle z]).toArray listed = Region.ready .any (h ++ [z]).toArray listed := by
  unfold Region.ready
  have hs : (h ++ [idle z]).toArray.size = (h ++ [z]).toArray.size := by simp
  rw [hs]
  congr 1
  funext i
  rw [same_of (fun o : Oper => o.after.all fun e => !Region.binds .any e || listed.getD e.on false) rfl i]
theorem yielded_same : yielded (h ++ [idle z]).toArray = yielded (h ++ [z]).toArray := by
  funext tmps j
  unfold yielded
  have := same_of (h := h) (z := z) (fun o : Oper => o.dst) rfl j
  rw [show ((h ++ [idle z]).toArray[j]?).bind (·.dst) = (((h ++ [idle z]).toArray[j]?).map (·.dst)).bind id from by cases (h ++ [idle z]).toArray[j]? <;> rfl, this]
  congr 1
  cases (h ++ [z]).toArray[j]? <;> rfl

theorem getD_set_up {listed : Array Bool} {i k : Nat} (h : listed.getD k false = true) : (listed.setIfInBounds i true).getD k false = true := by
  by_cases e : i = k
  · subst e
    have hk : i < listed.size := by
      rcases Nat.lt_or_ge i listed.size with h1 | h1
      · exact h1
      · simp [h1] at h
    simp [hk]
  · rw [getD_set_ne false e]; exact h
/-- Whatever is listed waited for nothing that isn't. -/
def Closed (ops : Array Oper) (listed : Array Bool) : Prop := ∀ j o, ops[j]? = some o → listed.getD j false = true → ∀ e ∈ o.after, Region.binds .any e = true → listed.getD e.on false = true
/-- Whatever order, from here on: from the row with its last operation put aside to the row itself. -/
theorem any_of_muted {Q : Exit → Act → World → Prop} (hg : z.guard = none) (hd : z.dst = none) (hw : ∀ i, i < h.length → (∃ e ∈ z.after, Region.binds .any e = true ∧ e.on = i) ∨ ∃ e ∈ z.after, Region.binds .any e = true ∧ ∃ o, (h ++ [z]).toArray[e.on]? = some o ∧ ∃ e2 ∈ o.after, Region.binds .any e2 = true ∧ e2.on = i)
    (hb : ∀ i o, (h ++ [z]).toArray[i]? = some o → ∀ e ∈ o.after, Region.binds .any e = true → e.on < i) :
    ∀ (f : Nat) (listed : Array Bool) (a : Act) (w : World), listed.size = h.length + 1 → listed.getD h.length true = false → C w → Closed (h ++ [z]).toArray listed →
      wpAnyQ P .any (h ++ [idle z]).toArray C (fun a' => ∀ w', C w' → wpList P (h ++ [z]).toArray Q [z] a' w') f listed a → wpAny P .any (h ++ [z]).toArray Q f listed a w := by
  have live : ∀ listed : Array Bool, listed.size = h.length + 1 → listed.getD h.length true = false → Region.ready .any (h ++ [z]).toArray listed ≠ [] := by
    intro listed hs hl e
    obtain ⟨i, hi, h1, h2⟩ := first_false (fun i => listed.getD i true) h.length hl
    obtain ⟨o, ho⟩ : ∃ o, (h ++ [z]).toArray[i]? = some o := by
      rcases Nat.lt_or_ge i h.length with hlt | hge
      · exact ⟨h[i], by rw [at_head _ hlt, List.getElem?_eq_getElem hlt]⟩
      · obtain rfl : i = h.length := by omega
        exact ⟨z, at_last z⟩
    have : i ∈ Region.ready .any (h ++ [z]).toArray listed := mem_ready.2 ⟨h1, o, ho, fun ed he hbd => by
      have hlt := hb i o ho ed he hbd
      exact marked (by omega) (h2 ed.on hlt)⟩
    rw [e] at this
    cases this
  intro f
  induction f with
  | zero =>
    intro listed a w hs hl _ _ H
    have := H.1
    rw [ready_same] at this
    exact absurd this (live listed hs hl)
  | succ f ih =>
    intro listed a w hs hl hC hcl H
    refine ⟨fun e => absurd e (live listed hs hl), fun i hi => ?_⟩
    have Hi := H.2 i (by rw [ready_same]; exact hi)
    by_cases hin : i = h.length
    · subst hin
      obtain ⟨_, o, ho, hall⟩ := mem_ready.1 hi
      obtain rfl : z = o := Option.some.inj ((at_last z).symm.trans ho)
      have done : Region.ready .any (h ++ [z]).toArray (listed.setIfInBounds h.length true) = [] := by
        refine List.eq_nil_iff_forall_not_mem.2 fun j hj => ?_
        obtain ⟨h0, o', ho', _⟩ := mem_ready.1 hj
        have hjl : j < h.length + 1 := by
          have := (Array.getElem?_eq_some_iff.1 ho').1
          simpa using this
        by_cases hjn : h.length = j
        · rw [← hjn] at h0
          simp [hs] at h0
        · rw [getD_set_ne true hjn] at h0
          have h1 : listed.getD j false = true := by
            rcases hw j (by omega) with ⟨e, he, hbd, hon⟩ | ⟨e, he, hbd, o2, ho2, e2, he2, hbd2, hon2⟩
            · rw [← hon]; exact hall e he hbd
            · rw [← hon2]; exact hcl _ _ ho2 (hall e he hbd) e2 he2 hbd2
          have hjs : j < listed.size := by omega
          simp [hjs] at h0 h1
          rw [h0] at h1
          cases h1
      have HQ : ∀ w', C w' → wpList P (h ++ [z]).toArray Q [z] a w' := by
        unfold qOp at Hi
        rw [at_last] at Hi
        have hwant : Region.wanted (idle z) (yielded (h ++ [idle z]).toArray a.tmps) = true := by
          unfold Region.wanted
          rw [show (idle z).guard = none from hg]
        simp only [hwant, if_true] at Hi
        obtain ⟨v, _, Hn⟩ := Hi
        have hput : a.put (idle z).dst v = a := by rw [show (idle z).dst = none from hd]; rfl
        rw [hput] at Hn
        cases f with
        | zero => exact Hn.2
        | succ f => exact Hn.1 (by rw [ready_same]; exact done)
      have Hz : wpOp P (h ++ [z]).toArray Q h.length (wpList P (h ++ [z]).toArray Q []) a w := by
        unfold wpOp
        rw [at_last]
        exact HQ w hC
      refine wpOp_mono (fun a' w' hq => ?_) Hz
      cases f with
      | zero => exact ⟨done, hq⟩
      | succ f => exact ⟨fun _ => hq, fun j hj => by rw [done] at hj; cases hj⟩
    · have hil : i < h.length := by
        obtain ⟨_, o, ho, _⟩ := mem_ready.1 hi
        have := (Array.getElem?_eq_some_iff.1 ho).1
        simp at this
        omega
      have Hi' : qOp P (h ++ [z]).toArray C i (wpAnyQ P .any (h ++ [idle z]).toArray C (fun a' => ∀ w', C w' → wpList P (h ++ [z]).toArray Q [z] a' w') f (listed.setIfInBounds i true)) a := by
        unfold qOp at Hi ⊢
        rw [at_head _ hil] at Hi ⊢
        rw [yielded_same] at Hi
        exact Hi
      have hcl2 : Closed (h ++ [z]).toArray (listed.setIfInBounds i true) := by
        intro j o ho hj e he hbd
        by_cases hji : i = j
        · subst hji
          obtain ⟨_, o', ho', hall⟩ := mem_ready.1 hi
          obtain rfl : o' = o := Option.some.inj (ho'.symm.trans ho)
          exact getD_set_up (hall e he hbd)
        · rw [getD_set_ne false hji] at hj
          exact getD_set_up (hcl j o ho hj e he hbd)
      exact wpOp_of_qOp hC (fun a' w' hw' H' => ih _ a' w' (by simpa using hs) (by rw [getD_set_ne true (by omega)]; exact hl) hw' hcl2 H') Hi'
end

/-- One walk in the order of the text; behind it, in every world of the class, the last operation. -/
theorem wp_region_last {P : Program} {C : World → Prop} {id : Nat} {Q : Exit → Act → World → Prop} {a : Act} {w : World} {l : List Oper} (hm : P.follows .mixedOrders = true) (hB : Region.lexB .any (mute l).toArray = true) (hL : lastB l = true)
    (hC : C { w with drawn := w.drawn + 1 })
    (hq : wpQuiet P (mute l).toArray C (fun a' => ∀ w', C w' → wpList P l.toArray Q (lastOf l) a' w') (mute l) a) : (Code.region id l.toArray true).wp P Q a w := by
  have hne : l ≠ [] := by intro e; subst e; cases hL
  obtain ⟨h, z, e1, e2, e3⟩ := mute_split l hne
  unfold lastB at hL
  rw [e3] at hL
  simp only [Bool.and_eq_true, Option.isNone_iff_eq_none] at hL
  obtain ⟨⟨⟨hg, hd⟩, hw⟩, hb⟩ := hL
  rw [e2] at hB hq
  rw [e3] at hq
  subst e1
  simp only [Region.lexB, Bool.and_eq_true] at hB
  refine wp_region_any hm ?_
  have H := wpAnyQ_lex (P := P) (C := C) (md := .any) hB.1 (h ++ [idle z]) 0 (Array.replicate (h ++ [idle z]).toArray.size false) a (by simp) (by simpa using hB.2) hq
  have hs : (h ++ [idle z]).toArray.size = (h ++ [z]).toArray.size := by simp
  rw [hs, show (h ++ [idle z]).length = (h ++ [z]).toArray.size by simp] at H
  refine any_of_muted hg hd (fun i hi => ?_) (fun i o ho e he hbd => ?_) _ _ _ _ (by simp) (by simp) hC (fun j o _ hj => by rw [show (Array.replicate (h ++ [z]).toArray.size false).getD j false = false from by unfold Array.getD; split <;> simp] at hj; cases hj) H
  · have := List.all_eq_true.1 hw i (List.mem_range.2 (by simp; exact hi))
    rw [Bool.or_eq_true] at this
    rcases this with this | this
    · obtain ⟨e, he, hh⟩ := Array.any_eq_true'.1 this
      simp only [Bool.and_eq_true, beq_iff_eq] at hh
      exact Or.inl ⟨e, he, hh.1, hh.2⟩
    · obtain ⟨e, he, hh⟩ := Array.any_eq_true'.1 this
      rw [Bool.and_eq_true] at hh
      obtain ⟨h1, h2⟩ := hh
      cases ho : (h ++ [z])[e.on]? with
      | none => rw [ho] at h2; cases h2
      | some o =>
        rw [ho] at h2
        obtain ⟨e2, he2, hh2⟩ := Array.any_eq_true'.1 h2
        simp only [Bool.and_eq_true, beq_iff_eq] at hh2
        exact Or.inr ⟨e, he, h1, o, by rw [List.getElem?_toArray]; exact ho, e2, he2, hh2.1, hh2.2⟩
  · have hi : i < (h ++ [z]).length := by
      have := (Array.getElem?_eq_some_iff.1 ho).1
      simpa using this
    have := List.all_eq_true.1 hb i (List.mem_range.2 hi)
    rw [List.getElem?_toArray] at ho
    rw [ho] at this
    have h2 := Array.all_eq_true_iff_forall_mem.1 this e he
    simpa [hbd] using h2

/-- At the class 'of what lay there nothing has turned'. -/
theorem wp_region_below_last {P : Program} {id : Nat} {Q : Exit → Act → World → Prop} {a : Act} {w : World} {l : List Oper} (hm : P.follows .mixedOrders = true) (hB : Region.lexB .any (mute l).toArray = true) (hL : lastB l = true)
    (hq : wpQuiet P (mute l).toArray (fun w' => ∃ p : Regrown, w' = grow (redrawn w p.d) p.os) (fun a' => ∀ w', (∃ p : Regrown, w' = grow (redrawn w p.d) p.os) → wpList P l.toArray Q (lastOf l) a' w') (mute l) a) : (Code.region id l.toArray true).wp P Q a w :=
  wp_region_last (C := fun w' => ∃ p : Regrown, w' = grow (redrawn w p.d) p.os) hm hB hL ⟨⟨w.drawn + 1, #[]⟩, by rw [grow_empty]; rfl⟩ hq
end Go.Proofs.YtafhogfbjklboaaDoor
namespace Go.Proofs.YtafhogfbjklboaaDoor
open Go Go.Sort
set_option linter.unusedSimpArgs false
set_option linter.unusedVariables false

/-- Operations that enter no function. -/
def plainOp : Op → Bool
  | .move _ | .assign _ | .pick .. | .load .. | .nilCheck _ | .binOp .. | .unOp .. | .slice .. | .fieldAddr .. | .indexAddr .. | .index .. | .extract .. | .field .. | .makeInterface .. | .convert .. => true
  | _ => false
theorem bind_ok {P : Program} {α β : Type} {s : Sem α} {k : α → Sem β} {w w' : World} {r : β} (h : (s >>= k).run P w = .ok r w') : ∃ v w1, s.run P w = .ok v w1 ∧ (k v).run P w1 = .ok r w' := by
  simp only [Sem.run_bind] at h
  cases hs : s.run P w with
  | ok v w1 => rw [hs] at h; simp only [Result.andThen_ok] at h; exact ⟨v, w1, rfl, h⟩
  | halt x w1 => rw [hs] at h; cases h
theorem value_noEnter {P : Program} (s : Sem Value) (w : World) (f : FuncId) (args : Array Value) (w' : World) : (do pure (Next.value (← s)) : Sem Next).run P w ≠ .ok (.enter f args) w' := by
  intro h
  simp only [Sem.run_bind, Sem.run_pure] at h
  cases hs : s.run P w with
  | ok v w1 => rw [hs] at h; simp only [Result.andThen_ok] at h; cases h
  | halt x w1 => rw [hs] at h; cases h
theorem bind_noEnter {P : Program} {α : Type} (s : Sem α) (g : α → Value) (w : World) (f : FuncId) (args : Array Value) (w' : World) : (do pure (Next.value (g (← s))) : Sem Next).run P w ≠ .ok (.enter f args) w' := by
  intro h
  simp only [Sem.run_bind, Sem.run_pure] at h
  cases hs : s.run P w with
  | ok v w1 => rw [hs] at h; simp only [Result.andThen_ok] at h; cases h
  | halt x w1 => rw [hs] at h; cases h
theorem noEnter {P : Program} {ρ : Operand → Value} {o : Oper} (h : plainOp o.op = true) (w : World) (f : FuncId) (args : Array Value) (w' : World) : (execOp ρ o).run P w ≠ .ok (.enter f args) w' := by
  unfold execOp
  cases ho : o.op <;> rw [ho] at h <;> simp only [plainOp, Bool.false_eq_true] at h <;> simp only [] <;> first | exact value_noEnter _ w f args w' | skip
  case move x => intro e; simp only [Sem.run_pure] at e; cases e
  case assign x => intro e; simp only [Sem.run_pure] at e; cases e
  case pick c a b => exact bind_noEnter _ _ w f args w'
  case nilCheck x =>
    repeat' split
    all_goals first
      | (intro e; simp only [Sem.run_pure] at e; cases e; done)
      | (intro e; cases e; done)
      | skip
    all_goals
      intro e
      obtain ⟨v1, w1, _, e⟩ := bind_ok e
      obtain ⟨v2, w2, _, e⟩ := bind_ok e
      split at e
      · obtain ⟨v3, w3, _, e⟩ := bind_ok e
        simp only [Sem.run_pure] at e
        cases e
      · simp only [Sem.run_pure] at e
        cases e

section
variable {P : Program} {ops : Array Oper} {md : Region.Mode} {C : World → Prop} {Q : Exit → Act → World → Prop}

/-- In state 'a', in every world of the class, operation 'o' leaves v in its temporary, and the world as it is. -/
def YieldsK (P : Program) (ops : Array Oper) (C : World → Prop) (o : Oper) (v : Value) (a : Act) : Prop :=
  (Region.wanted o (yielded ops a.tmps) = true ∧ ∀ w, C w → (execOp a.eval o).run P w = .ok (.value v) w ∨ ((execOp a.eval o).run P w = .ok .skip w ∧ v = undef)) ∨
  (Region.wanted o (yielded ops a.tmps) = false ∧ v = undef)
theorem YieldsK.wpOp {i : Nat} {o : Oper} {v : Value} {a : Act} (hi : ops[i]? = some o) (hy : YieldsK P ops C o v a) {K : Act → World → Prop} {w : World} (hC : C w) (h : K (a.put o.dst v) w) : wpOp P ops Q i K a w := by
  unfold Go.wpOp
  simp only [hi]
  rcases hy with ⟨hw, hv⟩ | ⟨hw, rfl⟩
  · simp only [hw, if_true]
    refine .inl ?_
    unfold Oper.wp
    rcases hv w hC with hv2 | ⟨hv2, hu⟩
    · rw [hv2]; exact h
    · rw [hv2]; rw [hu] at h; exact h
  · simp only [hw, Bool.false_eq_true, if_false]; exact h
theorem YieldsK.of_same {o : Oper} {v : Value} {a a' : Act} (hy : YieldsK P ops C o v a) (he : execOp a'.eval o = execOp a.eval o)
    (hw : Region.wanted o (yielded ops a'.tmps) = Region.wanted o (yielded ops a.tmps)) : YieldsK P ops C o v a' := by
  unfold YieldsK at *
  rw [he, hw]
  exact hy
theorem wpOp_putK {j : Nat} {oi oj : Oper} {v : Value} (hj : ops[j]? = some oj) (hap : oi.apart ops oj = true)
    (hsi : ∀ cs b, oi.op ≠ .select cs b) (hsj : ∀ cs b, oj.op ≠ .select cs b) (hQ : ∀ c a w, Q (.panic c) (a.put oi.dst v) w → Q (.panic c) a w) {K : Act → World → Prop} {a : Act} {w : World}
    (hy : YieldsK P ops C oi v a) (h : wpOp P ops Q j K (a.put oi.dst v) w) :
    wpOp P ops Q j (fun a' w' => YieldsK P ops C oi v a' ∧ K (a'.put oi.dst v) w') a w := by
  obtain ⟨h1, h2, h3⟩ := Oper.apart_spec hap
  have keep : ∀ (a : Act), YieldsK P ops C oi v a → ∀ u, YieldsK P ops C oi v (a.put oj.dst u) := fun a hy u =>
    hy.of_same (execOp_put oi hsi a oj.dst u h3) (wanted_put oi a oj.dst u h3)
  have keepD : ∀ d, YieldsK P ops C oi v { a with defers := d :: a.defers } := fun d => hy.of_same rfl rfl
  unfold wpOp at *
  simp only [hj] at *
  rw [wanted_put oj a oi.dst v h1] at h
  split
  · rename_i hw
    simp only [hw, if_true] at h
    rcases h with h | ⟨hasks, hlets⟩
    case inr => exact .inr ⟨by unfold Oper.asks at *; rw [execOp_put oj hsj a oi.dst v h1] at hasks; exact hasks, hlets⟩
    refine .inl ?_
    unfold Oper.wp at *
    rw [execOp_put oj hsj a oi.dst v h1] at h
    generalize (execOp a.eval oj).run P w = r at *
    cases r with
    | ok n w' =>
      cases n <;> simp only [Oper.upon] at h ⊢
      case value u => exact ⟨keep a hy u, by rw [← Act.put_comm a v u h2]; exact h⟩
      case skip => exact ⟨keep a hy _, by rw [← Act.put_comm a v undef h2]; exact h⟩
      case defer d =>
        refine ⟨keep _ (keepD d) _, ?_⟩
        rw [← Act.put_comm _ v undef h2, ← Act.put_defers]
        exact h
      case enter f args =>
        refine Calls.mono h fun e w'' he => ?_
        cases e with
        | returned u => exact ⟨keep a hy u, by rw [← Act.put_comm a v u h2]; exact he⟩
        | panicked c => exact hQ _ _ _ he
        | outgrown => exact he
      case row row args => exact Rows.mono h fun u w'' he => ⟨keep a hy u, by rw [← Act.put_comm a v u h2]; exact he⟩
    | halt x w' =>
      cases x <;> simp only [Oper.upon] at h ⊢
      case panic u => exact hQ _ _ _ h
  · rename_i hw
    simp only [hw] at h
    exact ⟨keep a hy _, by rw [← Act.put_comm a v undef h2]; exact h⟩

/-- Operation z waits for all others, each by an edge of its own or by one of one that it waits for. -/
def WaitsAll (ops : Array Oper) (z : Nat) : Prop := ∀ oz, ops[z]? = some oz → ∀ i, i < ops.size → i ≠ z → (∃ e ∈ oz.after, Region.binds .any e = true ∧ e.on = i) ∨ ∃ e ∈ oz.after, Region.binds .any e = true ∧ ∃ o, ops[e.on]? = some o ∧ ∃ e2 ∈ o.after, Region.binds .any e2 = true ∧ e2.on = i
theorem closed_set {listed : Array Bool} {j : Nat} (hcl : Closed ops listed) (hj : j ∈ Region.ready .any ops listed) : Closed ops (listed.setIfInBounds j true) := by
  intro k o ho hk e he hbd
  by_cases hjk : j = k
  · subst hjk
    obtain ⟨_, o', ho', hall⟩ := mem_ready.1 hj
    obtain rfl : o' = o := Option.some.inj (ho'.symm.trans ho)
    exact getD_set_up (hall e he hbd)
  · rw [getD_set_ne false hjk] at hk
    exact getD_set_up (hcl k o ho hk e he hbd)
theorem last_ready {listed : Array Bool} {z i : Nat} (hz : WaitsAll ops z) (hcl : Closed ops listed) (hr : z ∈ Region.ready .any ops listed) (hi : i ∈ Region.ready .any ops listed) : i = z := by
  obtain ⟨_, oz, hoz, hall⟩ := mem_ready.1 hr
  obtain ⟨hun, oi, hoi, _⟩ := mem_ready.1 hi
  have hlt : i < ops.size := (Array.getElem?_eq_some_iff.1 hoi).1
  refine Classical.byContradiction fun hne => ?_
  have h1 : listed.getD i false = true := by
    rcases hz oz hoz i hlt hne with ⟨e, he, hbd, hon⟩ | ⟨e, he, hbd, o2, ho2, e2, he2, hbd2, hon2⟩
    · rw [← hon]; exact hall e he hbd
    · rw [← hon2]; exact hcl _ _ ho2 (hall e he hbd) e2 he2 hbd2
  rcases Nat.lt_or_ge i listed.size with h' | h'
  · simp [h'] at hun h1; rw [hun] at h1; cases h1
  · simp [h'] at hun
/-- Whatever order is picked from here on, the worlds staying in the class but behind operation z. -/
def wpAnyC (P : Program) (ops : Array Oper) (C : World → Prop) (z : Nat) (Q : Exit → Act → World → Prop) : Nat → Array Bool → Act → World → Prop
  | 0, listed, a, w => Region.ready .any ops listed = [] ∧ Q .normal a w
  | fuel + 1, listed, a, w =>
    (Region.ready .any ops listed = [] → Q .normal a w) ∧
    ∀ i ∈ Region.ready .any ops listed, wpOp P ops Q i (fun a' w' => (i = z ∨ C w') ∧ wpAnyC P ops C z Q fuel (listed.setIfInBounds i true) a' w') a w
theorem wpAny_of_C {z : Nat} : ∀ (fuel : Nat) (listed : Array Bool) (a : Act) (w : World), wpAnyC P ops C z Q fuel listed a w → wpAny P .any ops Q fuel listed a w
  | 0, _, _, _, h => h
  | fuel + 1, _, _, _, h => ⟨h.1, fun i hi => wpOp_mono (fun a' w' h' => wpAny_of_C fuel _ a' w' h'.2) (h.2 i hi)⟩
theorem wpAnyC_first {i z : Nat} {oi : Oper} {v : Value} (hz : WaitsAll ops z) (hi : ops[i]? = some oi) (hsel : ∀ (j : Nat) (o : Oper) cs b, ops[j]? = some o → o.op ≠ .select cs b)
    (hQ : ∀ c a w, Q (.panic c) (a.put oi.dst v) w → Q (.panic c) a w) :
    ∀ (fuel : Nat) (listed : Array Bool) (a : Act) (w : World),
      (∀ j oj, ops[j]? = some oj → j ≠ i → listed.getD j true = false → (∀ e ∈ oj.after, Region.binds .any e = true → e.on ≠ i) → oi.apart ops oj = true) →
      Closed ops listed → i ∈ Region.ready .any ops listed → C w → YieldsK P ops C oi v a →
      wpAnyC P ops C z Q fuel (listed.setIfInBounds i true) (a.put oi.dst v) w → wpAnyC P ops C z Q (fuel + 1) listed a w := by
  intro fuel
  induction fuel with
  | zero =>
    intro listed a w _ _ hr hC hy H
    refine ⟨fun h => (by rw [h] at hr; cases hr), fun j hj => ?_⟩
    by_cases hji : j = i
    · subst hji; exact hy.wpOp hi hC ⟨Or.inr hC, H⟩
    · have := ready_mono hj hji
      rw [H.1] at this
      cases this
  | succ fuel ih =>
    intro listed a w hfree hcl hr hC hy H
    refine ⟨fun h => (by rw [h] at hr; cases hr), fun j hj => ?_⟩
    by_cases hji : j = i
    · subst hji; exact hy.wpOp hi hC ⟨Or.inr hC, H⟩
    · have h1 := H.2 j (ready_mono hj hji)
      obtain ⟨hjun, oj, hoj, hall⟩ := mem_ready.1 hj
      have hnot : ∀ e ∈ oj.after, Region.binds .any e = true → e.on ≠ i := fun e he hb heq => by
        have h1 := hall e he hb
        have h0 := (mem_ready.1 hr).1
        rw [heq] at h1
        rcases Nat.lt_or_ge i listed.size with h' | h'
        · simp [h'] at h0 h1; rw [h0] at h1; cases h1
        · simp [Array.getElem?_eq_none h'] at h1
      have hjz : j ≠ z := fun e => by subst e; exact hji (last_ready hz hcl hj hr).symm
      have h2 := wpOp_putK hoj (hfree j oj hoj hji hjun hnot) (fun cs b => hsel i oi cs b hi) (fun cs b => hsel j oj cs b hoj) hQ hy h1
      have hfree' : ∀ k ok, ops[k]? = some ok → k ≠ i → (listed.setIfInBounds j true).getD k true = false →
          (∀ e ∈ ok.after, Region.binds .any e = true → e.on ≠ i) → oi.apart ops ok = true := fun k ok hk hki hun hno => by
        refine hfree k ok hk hki ?_ hno
        by_cases hjk : j = k
        · subst hjk; exact hjun
        · rw [getD_set_ne true hjk] at hun; exact hun
      refine wpOp_mono (fun a' w' h3 => ⟨h3.2.1, ih (listed.setIfInBounds j true) a' w' hfree' (closed_set hcl hj) (ready_mono hr (Ne.symm hji)) (h3.2.1.resolve_left hjz) h3.1 ?_⟩) h2
      rw [Array.setIfInBounds_comm _ _ hji]
      exact h3.2.2

/-- A walk in an order of our own: at 'true' an operation that makes memory, at 'false' one that reads. -/
def wpSteps (P : Program) (ops : Array Oper) (C : World → Prop) (z : Nat) (Q : Exit → Act → World → Prop) : List (Nat × Bool) → Act → World → Prop
  | [], a, w => Q .normal a w
  | (k, true) :: r, a, w => wpOp P ops Q k (fun a' w' => ((k = z ∧ r = []) ∨ C w') ∧ wpSteps P ops C z Q r a' w') a w
  | (k, false) :: r, a, w => ∃ o v, ops[k]? = some o ∧ YieldsK P ops C o v a ∧ wpSteps P ops C z Q r (a.put o.dst v) w
/-- What is asked of that order: what reads may come up and stands apart from all that is left; what makes memory is the only one that may come up. -/
def mixFrom (ops : Array Oper) : List (Nat × Bool) → Array Bool → Bool
  | [], listed => (Region.ready .any ops listed).isEmpty
  | (k, true) :: r, listed => (Region.ready .any ops listed == [k]) && mixFrom ops r (listed.setIfInBounds k true)
  | (k, false) :: r, listed => (Region.ready .any ops listed).contains k && Region.free .any ops listed k && mixFrom ops r (listed.setIfInBounds k true)
theorem wpAnyC_of_steps {z : Nat} (hz : WaitsAll ops z) (hs : Region.noSelect ops = true) (hQ : ∀ c a w, ¬ Q (.panic c) a w) : ∀ (l : List (Nat × Bool)) (listed : Array Bool) (a : Act) (w : World), Closed ops listed → (l = [] ∨ C w) → mixFrom ops l listed = true → wpSteps P ops C z Q l a w → wpAnyC P ops C z Q l.length listed a w
  | [], listed, a, w, _, _, hB, h => ⟨by simpa [mixFrom] using hB, h⟩
  | (k, true) :: r, listed, a, w, hcl, hC, hB, h => by
    simp only [mixFrom, Bool.and_eq_true, beq_iff_eq] at hB
    refine ⟨fun e => (by rw [hB.1] at e; cases e), fun i hi => ?_⟩
    have hi' := hi
    rw [hB.1] at hi
    simp at hi
    subst hi
    exact wpOp_mono (fun a' w' h' => ⟨h'.1.imp (fun q => q.1) id, wpAnyC_of_steps hz hs hQ r _ a' w' (closed_set hcl hi') (h'.1.imp (fun q => q.2) id) hB.2 h'.2⟩) h
  | (k, false) :: r, listed, a, w, hcl, hC, hB, h => by
    simp only [mixFrom, Bool.and_eq_true] at hB
    obtain ⟨o, v, ho, hy, h⟩ := h
    have hC' : C w := hC.resolve_left (by simp)
    have hr : k ∈ Region.ready .any ops listed := by simpa using hB.1.1
    exact wpAnyC_first hz ho (Region.noSelect_spec hs) (fun c a w q => absurd q (hQ _ _ _)) r.length listed a w (Region.free_spec ho hB.1.2) hcl hr hC' hy (wpAnyC_of_steps hz hs hQ r _ _ w (closed_set hcl hr) (Or.inr hC') hB.2 h)

/-- An operation of a row. -/
def pickAt : List Oper → Nat → List Oper
  | [], _ => []
  | o :: _, 0 => [o]
  | _ :: r, n + 1 => pickAt r n
def pickAll (l : List Oper) : List Nat → List Oper
  | [] => []
  | k :: r => pickAt l k ++ pickAll l r
theorem pickAt_eq : ∀ (l : List Oper) (k : Nat), pickAt l k = match l[k]? with | some o => [o] | none => []
  | [], k => by simp [pickAt]
  | o :: _, 0 => by simp [pickAt]
  | _ :: r, n + 1 => by simp [pickAt, pickAt_eq r n]
/-- What reads, then one operation that makes memory (or none). -/
def planSteps : List (List Nat × List Nat) → List (Nat × Bool)
  | [] => []
  | (qs, ns) :: r => qs.map (·, false) ++ ns.map (·, true) ++ planSteps r
/-- Without panics. -/
def noPanic (Q : Exit → Act → World → Prop) : Exit → Act → World → Prop := fun e a w => (∀ c, e ≠ .panic c) ∧ Q e a w
mutual
/-- The walk, as the tactics take it. -/
def wpPlan (P : Program) (l : List Oper) (C : World → Prop) (Q : Exit → Act → World → Prop) : List (List Nat × List Nat) → Act → World → Prop
  | [], a, w => Q .normal a w
  | (qs, ns) :: r, a, w => wpQuiet P l.toArray C (fun a' => wpList P l.toArray (MixNext P l C Q r) (pickAll l ns) a' w) (pickAll l qs) a
/-- What is asked behind an operation that makes memory. -/
def MixNext (P : Program) (l : List Oper) (C : World → Prop) (Q : Exit → Act → World → Prop) (r : List (List Nat × List Nat)) : Exit → Act → World → Prop
  | .normal, a, w => (r = [] ∨ C w) ∧ wpPlan P l C Q r a w
  | .outgrown, a, w => Q .outgrown a w
  | _, _, _ => False
end

theorem Oper.wp_monoQ {o : Oper} {a : Act} {w : World} {K K' : Act → World → Prop} {Q Q' : Exit → Act → World → Prop} (h : ∀ a w, K a w → K' a w) (hp : ∀ c a w, Q (.panic c) a w → Q' (.panic c) a w) (ho : LetsOut Q → LetsOut Q')
    (hh : o.wp P a w K Q) : o.wp P a w K' Q' := by
  unfold Oper.wp at *
  generalize (execOp a.eval o).run P w = r at *
  cases r with
  | ok n w' =>
    cases n <;> simp only [Oper.upon] at hh ⊢ <;>
      first
        | exact h _ _ hh
        | exact Calls.mono hh (fun e w'' he => by cases e <;> first | exact h _ _ he | exact hp _ _ _ he | exact ho he)
        | exact Rows.mono hh (fun _ _ he => h _ _ he)
  | halt x w' => cases x <;> simp only [Oper.upon] at hh ⊢ <;> exact hp _ _ _ hh
theorem wpOp_monoQ {i : Nat} {a : Act} {w : World} {K K' : Act → World → Prop} {Q Q' : Exit → Act → World → Prop} (h : ∀ a w, K a w → K' a w) (hp : ∀ c a w, Q (.panic c) a w → Q' (.panic c) a w) (ho : LetsOut Q → LetsOut Q')
    (hh : wpOp P ops Q i K a w) : wpOp P ops Q' i K' a w := by
  unfold wpOp at *
  split
  · exact h _ _ (by simpa [*] using hh)
  · rename_i o ho'
    simp only [ho'] at hh
    split
    · rename_i hw; simp only [hw, if_true] at hh; exact hh.imp (Oper.wp_monoQ h hp ho) (fun q => ⟨q.1, ho q.2⟩)
    · rename_i hw; simp only [hw] at hh; exact h _ _ hh
theorem wpAny_monoQ {Q Q' : Exit → Act → World → Prop} (hn : ∀ a w, Q .normal a w → Q' .normal a w) (hp : ∀ c a w, Q (.panic c) a w → Q' (.panic c) a w) (ho : LetsOut Q → LetsOut Q') :
    ∀ (fuel : Nat) (listed : Array Bool) (a : Act) (w : World), wpAny P md ops Q fuel listed a w → wpAny P md ops Q' fuel listed a w
  | 0, _, _, _, h => ⟨h.1, hn _ _ h.2⟩
  | fuel + 1, _, _, _, h => ⟨fun e => hn _ _ (h.1 e), fun i hi => wpOp_monoQ (fun a' w' h' => wpAny_monoQ hn hp ho fuel _ a' w' h') hp ho (h.2 i hi)⟩

/-- What is asked of a plan. -/
def planB (l : List Oper) (plan : List (List Nat × List Nat)) : Bool :=
  plan.all fun q => (q.1.all fun k => match l[k]? with | some o => plainOp o.op | none => false) && decide (q.2.length ≤ 1) && (q.2.all fun k => (l[k]?).isSome)

theorem quiet_steps {l : List Oper} {z : Nat} {Q : Exit → Act → World → Prop} {r : List (Nat × Bool)} {X : Act → Prop} {w : World} (hne : ∃ w, C w) (hX : ∀ a, X a → wpSteps P l.toArray C z Q r a w) :
    ∀ (qs : List Nat) (a : Act), (qs.all fun k => match l[k]? with | some o => plainOp o.op | none => false) = true → wpQuiet P l.toArray C X (pickAll l qs) a → wpSteps P l.toArray C z Q (qs.map (·, false) ++ r) a w
  | [], a, _, h => hX a h
  | k :: qs, a, hB, h => by
    simp only [List.all_cons, Bool.and_eq_true] at hB
    obtain ⟨hk, hB⟩ := hB
    cases ho : l[k]? with
    | none => rw [ho] at hk; cases hk
    | some o =>
      rw [ho] at hk
      have e : pickAll l (k :: qs) = o :: pickAll l qs := by
        show pickAt l k ++ pickAll l qs = _
        rw [pickAt_eq, ho]
        rfl
      rw [e] at h
      have ho' : l.toArray[k]? = some o := by rw [List.getElem?_toArray]; exact ho
      unfold wpQuiet at h
      by_cases hw : Region.wanted o (yielded l.toArray a.tmps) = true
      · simp only [hw, if_true] at h
        obtain ⟨v, h1, h2⟩ := h
        refine ⟨o, v, ho', .inl ⟨hw, fun w1 hC => ?_⟩, quiet_steps hne hX qs _ hB h2⟩
        have h3 := h1 w1 hC
        unfold Oper.quietAt at h3
        cases hr : (execOp a.eval o).run P w1 with
        | ok n w' =>
          rw [hr] at h3
          cases n <;> simp only [Oper.quietUpon] at h3
          case value u => exact .inl (by rw [h3.1, h3.2])
          case skip => exact .inr ⟨by rw [h3.1], h3.2⟩
          case enter f args => exact absurd hr (noEnter hk w1 f args w')
        | halt x w' => rw [hr] at h3; simp only [Oper.quietUpon] at h3
      · simp only [hw] at h
        exact ⟨o, undef, ho', .inr ⟨by simpa using hw, rfl⟩, quiet_steps hne hX qs _ hB h⟩

/-- The last operation that makes memory, if a plan ends in it. -/
def zOf (n : Nat) : List (List Nat × List Nat) → Nat
  | [] => n
  | [(_, [k])] => k
  | _ :: r => zOf n r
theorem planSteps_ne {qs ns : List Nat} {r : List (List Nat × List Nat)} (h : planSteps ((qs, ns) :: r) = []) : True := trivial
theorem steps_of_plan {l : List Oper} {Q : Exit → Act → World → Prop} {n : Nat} (hne : ∃ w, C w) : ∀ (plan : List (List Nat × List Nat)) (a : Act) (w : World), planB l plan = true → wpPlan P l C Q plan a w → wpSteps P l.toArray C (zOf n plan) (noPanic Q) (planSteps plan) a w
  | [], a, w, _, h => ⟨fun c e => (by cases e), by unfold wpPlan at h; exact h⟩
  | (qs, ns) :: r, a, w, hB, h => by
    simp only [planB, List.all_cons, Bool.and_eq_true, decide_eq_true_eq] at hB
    obtain ⟨⟨⟨hq, hl⟩, hn⟩, hr⟩ := hB
    unfold wpPlan at h
    show wpSteps _ _ _ _ _ (qs.map (·, false) ++ ns.map (·, true) ++ planSteps r) a w
    rw [List.append_assoc]
    refine quiet_steps hne (fun a' h' => ?_) qs a hq h
    match ns, hl, hn with
    | [], _, _ =>
      have h'' : MixNext P l C Q r .normal a' w := h'
      unfold MixNext at h''
      have hz : zOf n ((qs, []) :: r) = zOf n r := by
        cases r <;> rfl
      rw [hz]
      exact steps_of_plan hne r _ _ hr h''.2
    | [k], _, hn =>
      simp only [List.all_cons, List.all_nil, Bool.and_true] at hn
      cases ho : l[k]? with
      | none => rw [ho] at hn; cases hn
      | some o =>
        have e : pickAll l [k] = [o] := by
          show pickAt l k ++ [] = _
          rw [pickAt_eq, ho]
          rfl
        rw [e] at h'
        have ho' : l.toArray[k]? = some o := by rw [List.getElem?_toArray]; exact ho
        have hrec : ∀ a'' w'', ((r = [] ∨ C w'') ∧ wpPlan P l C Q r a'' w'') → (((k = zOf n ((qs, [k]) :: r) ∧ planSteps r = []) ∨ C w'') ∧ wpSteps P l.toArray C (zOf n ((qs, [k]) :: r)) (noPanic Q) (planSteps r) a'' w'') := by
          intro a'' w'' q
          cases r with
          | nil => exact ⟨Or.inl ⟨rfl, rfl⟩, fun c e => (by cases e), by have := q.2; unfold wpPlan at this; exact this⟩
          | cons x r => exact ⟨Or.inr (q.1.resolve_left (by simp)), steps_of_plan hne (x :: r) a'' w'' hr q.2⟩
        show wpOp P l.toArray (noPanic Q) k (fun a'' w'' => ((k = zOf n ((qs, [k]) :: r) ∧ planSteps r = []) ∨ C w'') ∧ wpSteps P l.toArray C (zOf n ((qs, [k]) :: r)) (noPanic Q) (planSteps r) a'' w'') a' w
        have hpq : ∀ c a w, MixNext P l C Q r (.panic c) a w → noPanic Q (.panic c) a w := fun c a w q => by unfold MixNext at q; exact q.elim
        have hoq : LetsOut (MixNext P l C Q r) → LetsOut (noPanic Q) := by
          rintro ⟨a2, w2, q⟩
          unfold MixNext at q
          exact ⟨a2, w2, fun c e => (by cases e), q⟩
        have hkq : ∀ a'' w'', wpList P l.toArray (MixNext P l C Q r) [] a'' w'' → _ := fun a'' w'' q => hrec a'' w'' (by
          have q' : MixNext P l C Q r .normal a'' w'' := q
          unfold MixNext at q'
          exact q')
        unfold wpList at h'
        unfold wpOp
        simp only [ho']
        split
        · rename_i hw
          simp only [hw, if_true] at h'
          exact h'.imp (Oper.wp_monoQ hkq hpq hoq) (fun q => ⟨q.1, hoq q.2⟩)
        · rename_i hw
          simp only [hw] at h'
          exact hkq _ _ h'
    | _ :: _ :: _, hl, _ => simp at hl
end

/-- That operation z waits for all others, as a Bool. -/
def waitsB (l : List Oper) (z : Nat) : Bool :=
  match l[z]? with
  | none => true
  | some oz => (List.range l.length).all fun i => i == z || (oz.after.any fun e => Region.binds .any e && e.on == i) || (oz.after.any fun e => Region.binds .any e && match l[e.on]? with | some o => (o.after.any fun e2 => Region.binds .any e2 && e2.on == i) | none => false)
theorem waits_of {l : List Oper} {z : Nat} (h : waitsB l z = true) : WaitsAll l.toArray z := by
  intro oz hoz i hi hne
  rw [List.getElem?_toArray] at hoz
  unfold waitsB at h
  rw [hoz] at h
  have := List.all_eq_true.1 h i (List.mem_range.2 (by simpa using hi))
  simp only [Bool.or_eq_true, beq_iff_eq, hne, false_or] at this
  rcases this with this | this
  · obtain ⟨e, he, hh⟩ := Array.any_eq_true'.1 this
    simp only [Bool.and_eq_true, beq_iff_eq] at hh
    exact Or.inl ⟨e, he, hh.1, hh.2⟩
  · obtain ⟨e, he, hh⟩ := Array.any_eq_true'.1 this
    rw [Bool.and_eq_true] at hh
    obtain ⟨h1, h2⟩ := hh
    cases ho : l[e.on]? with
    | none => rw [ho] at h2; cases h2
    | some o =>
      rw [ho] at h2
      obtain ⟨e2, he2, hh2⟩ := Array.any_eq_true'.1 h2
      simp only [Bool.and_eq_true, beq_iff_eq] at hh2
      exact Or.inr ⟨e, he, h1, o, by rw [List.getElem?_toArray]; exact ho, e2, he2, hh2.1, hh2.2⟩

/-- What may be asked of a region and a plan for it, by the kernel. -/
def mixB (l : List Oper) (plan : List (List Nat × List Nat)) : Bool :=
  Region.noSelect l.toArray && planB l plan && mixFrom l.toArray (planSteps plan) (Array.replicate l.length false) && decide ((planSteps plan).length = l.length) && waitsB l (zOf l.length plan)
/-- The worlds in which of what lay there nothing has turned. -/
def Grew (w : World) : World → Prop := fun w' => ∃ p : Regrown, w' = grow (redrawn w p.d) p.os
/-- One walk, by a plan. -/
theorem wp_region_mix {P : Program} {id : Nat} {Q : Exit → Act → World → Prop} {a : Act} {w : World} {l : List Oper} (plan : List (List Nat × List Nat)) (hm : P.follows .mixedOrders = true) (hB : mixB l plan = true)
    (h : ∀ w1, (∃ d, w1 = redrawn w d) → wpPlan P l (fun w' => ∃ p : Regrown, w' = grow (redrawn w p.d) p.os) Q plan a w1) : (Code.region id l.toArray true).wp P Q a w := by
  simp only [mixB, Bool.and_eq_true, decide_eq_true_eq] at hB
  obtain ⟨⟨⟨⟨h1, h2⟩, h3⟩, h4⟩, h5⟩ := hB
  have hC : ∃ p : Regrown, ({ w with drawn := w.drawn + 1 } : World) = grow (redrawn w p.d) p.os := ⟨⟨w.drawn + 1, #[]⟩, by rw [grow_empty]; rfl⟩
  refine wp_region_any hm ?_
  have hs := steps_of_plan (n := l.length) (C := fun w' => ∃ p : Regrown, w' = grow (redrawn w p.d) p.os) ⟨_, hC⟩ plan a _ h2 (h { w with drawn := w.drawn + 1 } ⟨_, rfl⟩)
  have hcl : Closed l.toArray (Array.replicate l.length false) := fun j o _ hj => by rw [show (Array.replicate l.length false).getD j false = false from by unfold Array.getD; split <;> simp] at hj; cases hj
  have hc := wpAnyC_of_steps (waits_of h5) h1 (fun c a w q => q.1 c rfl) _ (Array.replicate l.length false) a _ hcl (Or.inr hC) h3 hs
  rw [h4] at hc
  have := wpAny_monoQ (Q := noPanic Q) (Q' := Q) (fun a w q => q.2) (fun c a w q => q.2) (fun ⟨a, w, q⟩ => ⟨a, w, q.2⟩) _ _ _ _ (wpAny_of_C _ _ _ _ hc)
  simpa using this
theorem mixNext_mk {P : Program} {l : List Oper} {C : World → Prop} {Q : Exit → Act → World → Prop} {r : List (List Nat × List Nat)} {a : Act} {w : World} (hC : C w) (h : wpPlan P l C Q r a w) : MixNext P l C Q r .normal a w := by
  unfold MixNext; exact ⟨Or.inr hC, h⟩
theorem mixNext_last {P : Program} {l : List Oper} {C : World → Prop} {Q : Exit → Act → World → Prop} {a : Act} {w : World} (h : Q .normal a w) : MixNext P l C Q [] .normal a w := by
  unfold MixNext; exact ⟨Or.inl rfl, by unfold wpPlan; exact h⟩
theorem wpPlan_nil {P : Program} {l : List Oper} {C : World → Prop} {Q : Exit → Act → World → Prop} {a : Act} {w : World} (h : Q .normal a w) : wpPlan P l C Q [] a w := by
  unfold wpPlan; exact h
theorem wpPlan_cons {P : Program} {l : List Oper} {C : World → Prop} {Q : Exit → Act → World → Prop} {qs ns : List Nat} {r : List (List Nat × List Nat)} {a : Act} {w : World}
    (h : wpQuiet P l.toArray C (fun a' => wpList P l.toArray (MixNext P l C Q r) (pickAll l ns) a' w) (pickAll l qs) a) : wpPlan P l C Q ((qs, ns) :: r) a w := by
  unfold wpPlan; exact h
end Go.Proofs.YtafhogfbjklboaaDoor
namespace Go.Proofs.YtafhogfbjklboaaDoor
open Go Go.Sort
set_option linter.unusedSimpArgs false
set_option linter.unusedVariables false

section
variable {P : Program} {C : World → Prop}

/-- What was listed, and these. -/
def setAll (listed : Array Bool) (qs : List Nat) : Array Bool := qs.foldl (fun l k => l.setIfInBounds k true) listed
/-- These may come up one after the other, and stand apart from all that is left. -/
def quietB (ops : Array Oper) : List Nat → Array Bool → Bool
  | [], _ => true
  | k :: r, listed => (Region.ready .any ops listed).contains k && Region.free .any ops listed k && quietB ops r (listed.setIfInBounds k true)
theorem anyC_quiet {l : List Oper} {z : Nat} {Q : Exit → Act → World → Prop} {fuel : Nat} {w : World} (hz : WaitsAll l.toArray z) (hs : Region.noSelect l.toArray = true) (hw : C w) :
    ∀ (qs : List Nat) (listed : Array Bool) (a : Act), Closed l.toArray listed → quietB l.toArray qs listed = true → (qs.all fun k => match l[k]? with | some o => plainOp o.op | none => false) = true →
      wpQuiet P l.toArray C (fun a' => wpAnyC P l.toArray C z (noPanic Q) fuel (setAll listed qs) a' w) (pickAll l qs) a → wpAnyC P l.toArray C z (noPanic Q) (qs.length + fuel) listed a w
  | [], listed, a, _, _, _, h => by
    rw [List.length_nil, Nat.zero_add]
    exact h
  | k :: qs, listed, a, hcl, hB, hP, h => by
    simp only [List.all_cons, Bool.and_eq_true] at hP
    obtain ⟨hk, hP⟩ := hP
    simp only [quietB, Bool.and_eq_true] at hB
    have hr : k ∈ Region.ready .any l.toArray listed := by simpa using hB.1.1
    cases ho : l[k]? with
    | none => rw [ho] at hk; cases hk
    | some o =>
      rw [ho] at hk
      have e : pickAll l (k :: qs) = o :: pickAll l qs := by
        show pickAt l k ++ pickAll l qs = _
        rw [pickAt_eq, ho]
        rfl
      rw [e] at h
      have ho' : l.toArray[k]? = some o := by rw [List.getElem?_toArray]; exact ho
      have hlen : (k :: qs).length + fuel = (qs.length + fuel) + 1 := by rw [List.length_cons]; omega
      rw [hlen]
      have go : ∀ v, YieldsK P l.toArray C o v a → wpQuiet P l.toArray C (fun a' => wpAnyC P l.toArray C z (noPanic Q) fuel (setAll (listed.setIfInBounds k true) qs) a' w) (pickAll l qs) (a.put o.dst v) → wpAnyC P l.toArray C z (noPanic Q) (qs.length + fuel + 1) listed a w := fun v hy h' =>
        wpAnyC_first hz ho' (Region.noSelect_spec hs) (fun c a w q => absurd rfl (q.1 c)) (qs.length + fuel) listed a w (Region.free_spec ho' hB.1.2) hcl hr hw hy (anyC_quiet hz hs hw qs _ _ (closed_set hcl hr) hB.2 hP h')
      unfold wpQuiet at h
      by_cases hwt : Region.wanted o (yielded l.toArray a.tmps) = true
      · simp only [hwt, if_true] at h
        obtain ⟨v, h1, h2⟩ := h
        refine go v (.inl ⟨hwt, fun w1 hC => ?_⟩) h2
        have h3 := h1 w1 hC
        unfold Oper.quietAt at h3
        cases hr : (execOp a.eval o).run P w1 with
        | ok n w' =>
          rw [hr] at h3
          cases n <;> simp only [Oper.quietUpon] at h3
          case value u => exact .inl (by rw [h3.1, h3.2])
          case skip => exact .inr ⟨by rw [h3.1], h3.2⟩
          case enter f args => exact absurd hr (noEnter hk w1 f args w')
        | halt x w' => rw [hr] at h3; simp only [Oper.quietUpon] at h3
      · simp only [hwt] at h
        exact go undef (.inr ⟨by simpa using hwt, rfl⟩) h

/-- What is asked behind an operation that came up. -/
def AnyNext (P : Program) (l : List Oper) (C : World → Prop) (z : Nat) (Q : Exit → Act → World → Prop) (k fuel : Nat) (listed : Array Bool) : Exit → Act → World → Prop
  | .normal, a, w => (k = z ∨ C w) ∧ wpAnyC P l.toArray C z (noPanic Q) fuel listed a w
  | .outgrown, a, w => Q .outgrown a w
  | _, _, _ => False
/-- Whatever may come up. -/
theorem anyC_pick {l : List Oper} {z fuel : Nat} {Q : Exit → Act → World → Prop} {listed : Array Bool} {a : Act} {w : World} (ks : List Nat) (hr : (Region.ready .any l.toArray listed == ks) = true) (hk : (ks.all fun k => (l[k]?).isSome) = true) (hne : ks.isEmpty = false)
    (h : ∀ k ∈ ks, wpList P l.toArray (AnyNext P l C z Q k fuel (listed.setIfInBounds k true)) (pickAll l [k]) a w) : wpAnyC P l.toArray C z (noPanic Q) (fuel + 1) listed a w := by
  have hr' : Region.ready .any l.toArray listed = ks := by simpa using hr
  refine ⟨fun e => ?_, fun k hkm => ?_⟩
  · rw [hr'] at e; rw [e] at hne; cases hne
  · rw [hr'] at hkm
    have h' := h k hkm
    have hsome := List.all_eq_true.1 hk k hkm
    cases ho : l[k]? with
    | none => rw [ho] at hsome; cases hsome
    | some o =>
      have e : pickAll l [k] = [o] := by
        show pickAt l k ++ [] = _
        rw [pickAt_eq, ho]
        rfl
      rw [e] at h'
      have ho' : l.toArray[k]? = some o := by rw [List.getElem?_toArray]; exact ho
      have hpq : ∀ c a w, AnyNext P l C z Q k fuel (listed.setIfInBounds k true) (.panic c) a w → noPanic Q (.panic c) a w := fun c a w q => by unfold AnyNext at q; exact q.elim
      have hoq : LetsOut (AnyNext P l C z Q k fuel (listed.setIfInBounds k true)) → LetsOut (noPanic Q) := by
        rintro ⟨a2, w2, q⟩
        unfold AnyNext at q
        exact ⟨a2, w2, fun c e => (by cases e), q⟩
      have hkq : ∀ a'' w'', wpList P l.toArray (AnyNext P l C z Q k fuel (listed.setIfInBounds k true)) [] a'' w'' → (k = z ∨ C w'') ∧ wpAnyC P l.toArray C z (noPanic Q) fuel (listed.setIfInBounds k true) a'' w'' := fun a'' w'' q => by
        have q' : AnyNext P l C z Q k fuel (listed.setIfInBounds k true) .normal a'' w'' := q
        unfold AnyNext at q'
        exact q'
      unfold wpList at h'
      unfold wpOp
      simp only [ho']
      split
      · rename_i hw
        simp only [hw, if_true] at h'
        exact h'.imp (Oper.wp_monoQ hkq hpq hoq) (fun q => ⟨q.1, hoq q.2⟩)
      · rename_i hw
        simp only [hw] at h'
        exact hkq _ _ h'
theorem anyC_pick1 {l : List Oper} {z fuel : Nat} {Q : Exit → Act → World → Prop} {listed : Array Bool} {a : Act} {w : World} (k : Nat) (hr : (Region.ready .any l.toArray listed == [k]) = true) (hk : (l[k]?).isSome = true)
    (h : wpList P l.toArray (AnyNext P l C z Q k fuel (listed.setIfInBounds k true)) (pickAll l [k]) a w) : wpAnyC P l.toArray C z (noPanic Q) (fuel + 1) listed a w :=
  anyC_pick [k] hr (by simp [hk]) rfl (by simpa using h)
theorem anyC_pick2 {l : List Oper} {z fuel : Nat} {Q : Exit → Act → World → Prop} {listed : Array Bool} {a : Act} {w : World} (k k' : Nat) (hr : (Region.ready .any l.toArray listed == [k, k']) = true) (hk : (l[k]?).isSome = true) (hk' : (l[k']?).isSome = true)
    (h : wpList P l.toArray (AnyNext P l C z Q k fuel (listed.setIfInBounds k true)) (pickAll l [k]) a w) (h' : wpList P l.toArray (AnyNext P l C z Q k' fuel (listed.setIfInBounds k' true)) (pickAll l [k']) a w) : wpAnyC P l.toArray C z (noPanic Q) (fuel + 1) listed a w :=
  anyC_pick [k, k'] hr (by simp [hk, hk']) rfl (by
    intro x hx
    simp only [List.mem_cons, List.not_mem_nil, or_false] at hx
    rcases hx with rfl | rfl
    · exact h
    · exact h')
theorem anyC_done {l : List Oper} {z : Nat} {Q : Exit → Act → World → Prop} {listed : Array Bool} {a : Act} {w : World} (hr : (Region.ready .any l.toArray listed).isEmpty = true) (h : Q .normal a w) : wpAnyC P l.toArray C z (noPanic Q) 0 listed a w :=
  ⟨by simpa using hr, fun c e => (by cases e), h⟩
theorem anyNext_mk {l : List Oper} {z k fuel : Nat} {Q : Exit → Act → World → Prop} {listed : Array Bool} {a : Act} {w : World} (hC : C w) (h : wpAnyC P l.toArray C z (noPanic Q) fuel listed a w) : AnyNext P l C z Q k fuel listed .normal a w := by
  unfold AnyNext; exact ⟨Or.inr hC, h⟩
theorem anyNext_last {l : List Oper} {z fuel : Nat} {Q : Exit → Act → World → Prop} {listed : Array Bool} {a : Act} {w : World} (h : wpAnyC P l.toArray C z (noPanic Q) fuel listed a w) : AnyNext P l C z Q z fuel listed .normal a w := by
  unfold AnyNext; exact ⟨Or.inl rfl, h⟩
end

/-- A world of which something holds. -/
structure GW (G : World → Prop) where
  w : World
  h : G w
/-- What may be asked of such a region, by the kernel. -/
def turnsB (l : List Oper) (qs : List Nat) (z n : Nat) : Bool :=
  Region.noSelect l.toArray && (qs.all fun k => match l[k]? with | some o => plainOp o.op | none => false) && quietB l.toArray qs (Array.replicate l.length false) && waitsB l z && decide (qs.length + n = l.length)
theorem wp_region_turns {P : Program} {id : Nat} {Q : Exit → Act → World → Prop} {a : Act} {w : World} {l : List Oper} (C : World → Prop) (qs : List Nat) (z n : Nat) (hm : P.follows .mixedOrders = true) (hB : turnsB l qs z n = true) (hC : ∀ d, C (redrawn w d))
    (h : ∀ d, wpQuiet P l.toArray C (fun a' => wpAnyC P l.toArray C z (noPanic Q) n (setAll (Array.replicate l.length false) qs) a' (redrawn w d)) (pickAll l qs) a) : (Code.region id l.toArray true).wp P Q a w := by
  simp only [turnsB, Bool.and_eq_true, decide_eq_true_eq] at hB
  obtain ⟨⟨⟨⟨h1, h2⟩, h3⟩, h4⟩, h5⟩ := hB
  refine wp_region_any hm ?_
  have hcl : Closed l.toArray (Array.replicate l.length false) := fun j o _ hj => by rw [show (Array.replicate l.length false).getD j false = false from by unfold Array.getD; split <;> simp] at hj; cases hj
  have hc := anyC_quiet (P := P) (C := C) (z := z) (Q := Q) (fuel := n) (w := redrawn w (w.drawn + 1)) (waits_of h4) h1 (hC (w.drawn + 1)) qs (Array.replicate l.length false) a hcl h3 h2 (h (w.drawn + 1))
  rw [h5] at hc
  have := wpAny_monoQ (Q := noPanic Q) (Q' := Q) (fun a w q => q.2) (fun c a w q => q.2) (fun ⟨a, w, q⟩ => ⟨a, w, q.2⟩) _ _ _ _ (wpAny_of_C _ _ _ _ hc)
  rw [show redrawn w (w.drawn + 1) = { w with drawn := w.drawn + 1 } from rfl] at this
  simpa using this
end Go.Proofs.YtafhogfbjklboaaDoor
