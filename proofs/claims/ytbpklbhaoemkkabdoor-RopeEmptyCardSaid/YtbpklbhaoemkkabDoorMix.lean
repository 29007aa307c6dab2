/- A region that draws its order and holds calls (or other operations that make memory) which stand in one chain: all else only reads: one walk is enough, in an order of our own choosing in which whatever reads comes as soon as it may. -/
import Derived.Test.YtbpklbhaoemkkabDoorQTail
namespace Go.Proofs.YtbpklbhaoemkkabDoor
open Go Go.Sort
set_option linter.unusedSimpArgs false
set_option linter.unusedVariables false

/-- Operations that enter no function. -/
def plainOp : Op → Bool
  | .move _ | .assign _ | .pick .. | .load .. | .nilCheck _ | .binOp .. | .unOp .. | .slice .. | .fieldAddr .. | .indexAddr .. | .index .. | .extract .. | .field .. | .makeInterface .. => true
  | _ => false
theorem bind_ok {P : Program} {α β : Type} {s : Sem α} {k : α → Sem β} {w w' : World} {r : β} (h : (s >>= k).run P w = .ok r w') : ∃ v w1, s.run P w = .ok v w1 ∧ (k v).run P w1 = .ok r w' := by
  simp only [Sem.run_bind] at h
  cases hs : s.run P w with
  | ok v w1 => rw [hs] at h; simp only [Result.andThen_ok] at h; exact ⟨v, w1, rfl, h⟩
  | halt x w1 => rw [hs] at h; cases h
theorem value_noEnter {P : Program} (s : Sem Value) (w : World) (f : FuncId) (args : Array Value) (w' : World) : (do pure (Next.value (← s)) : Sem Next).run P w ≠ .ok (.enter f args) w' := by
  intro h
  simp only [Sem.run_bind, Sem.run_pure] at h
  cases hs : s.run P w with
  | ok v w1 => rw [hs] at h; simp only [Result.andThen_ok] at h; cases h
  | halt x w1 => rw [hs] at h; cases h
theorem bind_noEnter {P : Program} {α : Type} (s : Sem α) (g : α → Value) (w : World) (f : FuncId) (args : Array Value) (w' : World) : (do pure (Next.value (g (← s))) : Sem Next).run P w ≠ .ok (.enter f args) w' := by
  intro h
  simp only [Sem.run_bind, Sem.run_pure] at h
  cases hs : s.run P w with
  | ok v w1 => rw [hs] at h; simp only [Result.andThen_ok] at h; cases h
  | halt x w1 => rw [hs] at h; cases h
theorem noEnter {P : Program} {ρ : Operand → Value} {o : Oper} (h : plainOp o.op = true) (w : World) (f : FuncId) (args : Array Value) (w' : World) : (execOp ρ o).run P w ≠ .ok (.enter f args) w' := by
  unfold execOp
  cases ho : o.op <;> rw [ho] at h <;> simp only [plainOp, Bool.false_eq_true] at h <;> simp only [] <;> first | exact value_noEnter _ w f args w' | skip
  case move x => intro e; simp only [Sem.run_pure] at e; cases e
  case assign x => intro e; simp only [Sem.run_pure] at e; cases e
  case pick c a b => exact bind_noEnter _ _ w f args w'
  case nilCheck x =>
    repeat' split
    all_goals first
      | (intro e; simp only [Sem.run_pure] at e; cases e; done)
      | (intro e; cases e; done)
      | skip
    all_goals
      intro e
      obtain ⟨v1, w1, _, e⟩ := bind_ok e
      obtain ⟨v2, w2, _, e⟩ := bind_ok e
      split at e
      · obtain ⟨v3, w3, _, e⟩ := bind_ok e
        simp only [Sem.run_pure] at e
        cases e
      · simp only [Sem.run_pure] at e
        cases e

section
variable {P : Program} {ops : Array Oper} {md : Region.Mode} {C : World → Prop} {Q : Exit → Act → World → Prop}

/-- In state 'a', in every world of the class, operation 'o' leaves v in its temporary, and the world as it is. -/
def YieldsK (P : Program) (ops : Array Oper) (C : World → Prop) (o : Oper) (v : Value) (a : Act) : Prop :=
  (Region.wanted o (yielded ops a.tmps) = true ∧ ∀ w, C w → (execOp a.eval o).run P w = .ok (.value v) w ∨ ((execOp a.eval o).run P w = .ok .skip w ∧ v = undef)) ∨
  (Region.wanted o (yielded ops a.tmps) = false ∧ v = undef)
theorem YieldsK.wpOp {i : Nat} {o : Oper} {v : Value} {a : Act} (hi : ops[i]? = some o) (hy : YieldsK P ops C o v a) {K : Act → World → Prop} {w : World} (hC : C w) (h : K (a.put o.dst v) w) : wpOp P ops Q i K a w := by
  unfold Go.wpOp
  simp only [hi]
  rcases hy with ⟨hw, hv⟩ | ⟨hw, rfl⟩
  · simp only [hw, if_true]
    refine .inl ?_
    unfold Oper.wp
    rcases hv w hC with hv2 | ⟨hv2, hu⟩
    · rw [hv2]; exact h
    · rw [hv2]; rw [hu] at h; exact h
  · simp only [hw, Bool.false_eq_true, if_false]; exact h
theorem YieldsK.of_same {o : Oper} {v : Value} {a a' : Act} (hy : YieldsK P ops C o v a) (he : execOp a'.eval o = execOp a.eval o)
    (hw : Region.wanted o (yielded ops a'.tmps) = Region.wanted o (yielded ops a.tmps)) : YieldsK P ops C o v a' := by
  unfold YieldsK at *
  rw [he, hw]
  exact hy
theorem wpOp_putK {j : Nat} {oi oj : Oper} {v : Value} (hj : ops[j]? = some oj) (hap : oi.apart ops oj = true)
    (hsi : ∀ cs b, oi.op ≠ .select cs b) (hsj : ∀ cs b, oj.op ≠ .select cs b) (hQ : ∀ c a w, Q (.panic c) (a.put oi.dst v) w → Q (.panic c) a w) {K : Act → World → Prop} {a : Act} {w : World}
    (hy : YieldsK P ops C oi v a) (h : wpOp P ops Q j K (a.put oi.dst v) w) :
    wpOp P ops Q j (fun a' w' => YieldsK P ops C oi v a' ∧ K (a'.put oi.dst v) w') a w := by
  obtain ⟨h1, h2, h3⟩ := Oper.apart_spec hap
  have keep : ∀ (a : Act), YieldsK P ops C oi v a → ∀ u, YieldsK P ops C oi v (a.put oj.dst u) := fun a hy u =>
    hy.of_same (execOp_put oi hsi a oj.dst u h3) (wanted_put oi a oj.dst u h3)
  have keepD : ∀ d, YieldsK P ops C oi v { a with defers := d :: a.defers } := fun d => hy.of_same rfl rfl
  unfold wpOp at *
  simp only [hj] at *
  rw [wanted_put oj a oi.dst v h1] at h
  split
  · rename_i hw
    simp only [hw, if_true] at h
    rcases h with h | ⟨hasks, hlets⟩
    case inr => exact .inr ⟨by unfold Oper.asks at *; rw [execOp_put oj hsj a oi.dst v h1] at hasks; exact hasks, hlets⟩
    refine .inl ?_
    unfold Oper.wp at *
    rw [execOp_put oj hsj a oi.dst v h1] at h
    generalize (execOp a.eval oj).run P w = r at *
    cases r with
    | ok n w' =>
      cases n <;> simp only [Oper.upon] at h ⊢
      case value u => exact ⟨keep a hy u, by rw [← Act.put_comm a v u h2]; exact h⟩
      case skip => exact ⟨keep a hy _, by rw [← Act.put_comm a v undef h2]; exact h⟩
      case defer d =>
        refine ⟨keep _ (keepD d) _, ?_⟩
        rw [← Act.put_comm _ v undef h2, ← Act.put_defers]
        exact h
      case enter f args =>
        refine Calls.mono h fun e w'' he => ?_
        cases e with
        | returned u => exact ⟨keep a hy u, by rw [← Act.put_comm a v u h2]; exact he⟩
        | panicked c => exact hQ _ _ _ he
        | outgrown => exact he
      case row row args => exact Rows.mono h fun u w'' he => ⟨keep a hy u, by rw [← Act.put_comm a v u h2]; exact he⟩
    | halt x w' =>
      cases x <;> simp only [Oper.upon] at h ⊢
      case panic u => exact hQ _ _ _ h
  · rename_i hw
    simp only [hw] at h
    exact ⟨keep a hy _, by rw [← Act.put_comm a v undef h2]; exact h⟩

/-- Operation z waits for all others, each by an edge of its own or by one of one that it waits for. -/
def WaitsAll (ops : Array Oper) (z : Nat) : Prop := ∀ oz, ops[z]? = some oz → ∀ i, i < ops.size → i ≠ z → (∃ e ∈ oz.after, Region.binds .any e = true ∧ e.on = i) ∨ ∃ e ∈ oz.after, Region.binds .any e = true ∧ ∃ o, ops[e.on]? = some o ∧ ∃ e2 ∈ o.after, Region.binds .any e2 = true ∧ e2.on = i
theorem closed_set {listed : Array Bool} {j : Nat} (hcl : Closed ops listed) (hj : j ∈ Region.ready .any ops listed) : Closed ops (listed.setIfInBounds j true) := by
  intro k o ho hk e he hbd
  by_cases hjk : j = k
  · subst hjk
    obtain ⟨_, o', ho', hall⟩ := mem_ready.1 hj
    obtain rfl : o' = o := Option.some.inj (ho'.symm.trans ho)
    exact getD_set_up (hall e he hbd)
  · rw [getD_set_ne false hjk] at hk
    exact getD_set_up (hcl k o ho hk e he hbd)
theorem last_ready {listed : Array Bool} {z i : Nat} (hz : WaitsAll ops z) (hcl : Closed ops listed) (hr : z ∈ Region.ready .any ops listed) (hi : i ∈ Region.ready .any ops listed) : i = z := by
  obtain ⟨_, oz, hoz, hall⟩ := mem_ready.1 hr
  obtain ⟨hun, oi, hoi, _⟩ := mem_ready.1 hi
  have hlt : i < ops.size := (Array.getElem?_eq_some_iff.1 hoi).1
  refine Classical.byContradiction fun hne => ?_
  have h1 : listed.getD i false = true := by
    rcases hz oz hoz i hlt hne with ⟨e, he, hbd, hon⟩ | ⟨e, he, hbd, o2, ho2, e2, he2, hbd2, hon2⟩
    · rw [← hon]; exact hall e he hbd
    · rw [← hon2]; exact hcl _ _ ho2 (hall e he hbd) e2 he2 hbd2
  rcases Nat.lt_or_ge i listed.size with h' | h'
  · simp [h'] at hun h1; rw [hun] at h1; cases h1
  · simp [h'] at hun
/-- Whatever order is picked from here on, the worlds staying in the class but behind operation z. -/
def wpAnyC (P : Program) (ops : Array Oper) (C : World → Prop) (z : Nat) (Q : Exit → Act → World → Prop) : Nat → Array Bool → Act → World → Prop
  | 0, listed, a, w => Region.ready .any ops listed = [] ∧ Q .normal a w
  | fuel + 1, listed, a, w =>
    (Region.ready .any ops listed = [] → Q .normal a w) ∧
    ∀ i ∈ Region.ready .any ops listed, wpOp P ops Q i (fun a' w' => (i = z ∨ C w') ∧ wpAnyC P ops C z Q fuel (listed.setIfInBounds i true) a' w') a w
theorem wpAny_of_C {z : Nat} : ∀ (fuel : Nat) (listed : Array Bool) (a : Act) (w : World), wpAnyC P ops C z Q fuel listed a w → wpAny P .any ops Q fuel listed a w
  | 0, _, _, _, h => h
  | fuel + 1, _, _, _, h => ⟨h.1, fun i hi => wpOp_mono (fun a' w' h' => wpAny_of_C fuel _ a' w' h'.2) (h.2 i hi)⟩
theorem wpAnyC_first {i z : Nat} {oi : Oper} {v : Value} (hz : WaitsAll ops z) (hi : ops[i]? = some oi) (hsel : ∀ (j : Nat) (o : Oper) cs b, ops[j]? = some o → o.op ≠ .select cs b)
    (hQ : ∀ c a w, Q (.panic c) (a.put oi.dst v) w → Q (.panic c) a w) :
    ∀ (fuel : Nat) (listed : Array Bool) (a : Act) (w : World),
      (∀ j oj, ops[j]? = some oj → j ≠ i → listed.getD j true = false → (∀ e ∈ oj.after, Region.binds .any e = true → e.on ≠ i) → oi.apart ops oj = true) →
      Closed ops listed → i ∈ Region.ready .any ops listed → C w → YieldsK P ops C oi v a →
      wpAnyC P ops C z Q fuel (listed.setIfInBounds i true) (a.put oi.dst v) w → wpAnyC P ops C z Q (fuel + 1) listed a w := by
  intro fuel
  induction fuel with
  | zero =>
    intro listed a w _ _ hr hC hy H
    refine ⟨fun h => (by rw [h] at hr; cases hr), fun j hj => ?_⟩
    by_cases hji : j = i
    · subst hji; exact hy.wpOp hi hC ⟨Or.inr hC, H⟩
    · have := ready_mono hj hji
      rw [H.1] at this
      cases this
  | succ fuel ih =>
    intro listed a w hfree hcl hr hC hy H
    refine ⟨fun h => (by rw [h] at hr; cases hr), fun j hj => ?_⟩
    by_cases hji : j = i
    · subst hji; exact hy.wpOp hi hC ⟨Or.inr hC, H⟩
    · have h1 := H.2 j (ready_mono hj hji)
      obtain ⟨hjun, oj, hoj, hall⟩ := mem_ready.1 hj
      have hnot : ∀ e ∈ oj.after, Region.binds .any e = true → e.on ≠ i := fun e he hb heq => by
        have h1 := hall e he hb
        have h0 := (mem_ready.1 hr).1
        rw [heq] at h1
        rcases Nat.lt_or_ge i listed.size with h' | h'
        · simp [h'] at h0 h1; rw [h0] at h1; cases h1
        · simp [Array.getElem?_eq_none h'] at h1
      have hjz : j ≠ z := fun e => by subst e; exact hji (last_ready hz hcl hj hr).symm
      have h2 := wpOp_putK hoj (hfree j oj hoj hji hjun hnot) (fun cs b => hsel i oi cs b hi) (fun cs b => hsel j oj cs b hoj) hQ hy h1
      have hfree' : ∀ k ok, ops[k]? = some ok → k ≠ i → (listed.setIfInBounds j true).getD k true = false →
          (∀ e ∈ ok.after, Region.binds .any e = true → e.on ≠ i) → oi.apart ops ok = true := fun k ok hk hki hun hno => by
        refine hfree k ok hk hki ?_ hno
        by_cases hjk : j = k
        · subst hjk; exact hjun
        · rw [getD_set_ne true hjk] at hun; exact hun
      refine wpOp_mono (fun a' w' h3 => ⟨h3.2.1, ih (listed.setIfInBounds j true) a' w' hfree' (closed_set hcl hj) (ready_mono hr (Ne.symm hji)) (h3.2.1.resolve_left hjz) h3.1 ?_⟩) h2
      rw [Array.setIfInBounds_comm _ _ hji]
      exact h3.2.2

/-- A walk in an order of our own: at 'true' an operation that makes memory, at 'false' one that reads. -/
def wpSteps (P : Program) (ops : Array Oper) (C : World → Prop) (z : Nat) (Q : Exit → Act → World → Prop) : List (Nat × Bool) → Act → World → Prop
  | [], a, w => Q .normal a w
  | (k, true) :: r, a, w => wpOp P ops Q k (fun a' w' => ((k = z ∧ r = []) ∨ C w') ∧ wpSteps P ops C z Q r a' w') a w
  | (k, false) :: r, a, w => ∃ o v, ops[k]? = some o ∧ YieldsK P ops C o v a ∧ wpSteps P ops C z Q r (a.put o.dst v) w
/-- What is asked of that order: what reads may come up and stands apart from all that is left; what makes memory is the only one that may come up. -/
def mixFrom (ops : Array Oper) : List (Nat × Bool) → Array Bool → Bool
  | [], listed => (Region.ready .any ops listed).isEmpty
  | (k, true) :: r, listed => (Region.ready .any ops listed == [k]) && mixFrom ops r (listed.setIfInBounds k true)
  | (k, false) :: r, listed => (Region.ready .any ops listed).contains k && Region.free .any ops listed k && mixFrom ops r (listed.setIfInBounds k true)
theorem wpAnyC_of_steps {z : Nat} (hz : WaitsAll ops z) (hs : Region.noSelect ops = true) (hQ : ∀ c a w, ¬ Q (.panic c) a w) : ∀ (l : List (Nat × Bool)) (listed : Array Bool) (a : Act) (w : World), Closed ops listed → (l = [] ∨ C w) → mixFrom ops l listed = true → wpSteps P ops C z Q l a w → wpAnyC P ops C z Q l.length listed a w
  | [], listed, a, w, _, _, hB, h => ⟨by simpa [mixFrom] using hB, h⟩
  | (k, true) :: r, listed, a, w, hcl, hC, hB, h => by
    simp only [mixFrom, Bool.and_eq_true, beq_iff_eq] at hB
    refine ⟨fun e => (by rw [hB.1] at e; cases e), fun i hi => ?_⟩
    have hi' := hi
    rw [hB.1] at hi
    simp at hi
    subst hi
    exact wpOp_mono (fun a' w' h' => ⟨h'.1.imp (fun q => q.1) id, wpAnyC_of_steps hz hs hQ r _ a' w' (closed_set hcl hi') (h'.1.imp (fun q => q.2) id) hB.2 h'.2⟩) h
  | (k, false) :: r, listed, a, w, hcl, hC, hB, h => by
    simp only [mixFrom, Bool.and_eq_true] at hB
    obtain ⟨o, v, ho, hy, h⟩ := h
    have hC' : C w := hC.resolve_left (by simp)
    have hr : k ∈ Region.ready .any ops listed := by simpa using hB.1.1
    exact wpAnyC_first hz ho (Region.noSelect_spec hs) (fun c a w q => absurd q (hQ _ _ _)) r.length listed a w (Region.free_spec ho hB.1.2) hcl hr hC' hy (wpAnyC_of_steps hz hs hQ r _ _ w (closed_set hcl hr) (Or.inr hC') hB.2 h)

/-- An operation of a row. -/
def pickAt : List Oper → Nat → List Oper
  | [], _ => []
  | o :: _, 0 => [o]
  | _ :: r, n + 1 => pickAt r n
def pickAll (l : List Oper) : List Nat → List Oper
  | [] => []
  | k :: r => pickAt l k ++ pickAll l r
theorem pickAt_eq : ∀ (l : List Oper) (k : Nat), pickAt l k = match l[k]? with | some o => [o] | none => []
  | [], k => by simp [pickAt]
  | o :: _, 0 => by simp [pickAt]
  | _ :: r, n + 1 => by simp [pickAt, pickAt_eq r n]
/-- What reads, then one operation that makes memory (or none). -/
def planSteps : List (List Nat × List Nat) → List (Nat × Bool)
  | [] => []
  | (qs, ns) :: r => qs.map (·, false) ++ ns.map (·, true) ++ planSteps r
/-- Without panics. -/
def noPanic (Q : Exit → Act → World → Prop) : Exit → Act → World → Prop := fun e a w => (∀ c, e ≠ .panic c) ∧ Q e a w
mutual
/-- The walk, as the tactics take it. -/
def wpPlan (P : Program) (l : List Oper) (C : World → Prop) (Q : Exit → Act → World → Prop) : List (List Nat × List Nat) → Act → World → Prop
  | [], a, w => Q .normal a w
  | (qs, ns) :: r, a, w => wpQuiet P l.toArray C (fun a' => wpList P l.toArray (MixNext P l C Q r) (pickAll l ns) a' w) (pickAll l qs) a
/-- What is asked behind an operation that makes memory. -/
def MixNext (P : Program) (l : List Oper) (C : World → Prop) (Q : Exit → Act → World → Prop) (r : List (List Nat × List Nat)) : Exit → Act → World → Prop
  | .normal, a, w => (r = [] ∨ C w) ∧ wpPlan P l C Q r a w
  | .outgrown, a, w => Q .outgrown a w
  | _, _, _ => False
end

theorem Oper.wp_monoQ {o : Oper} {a : Act} {w : World} {K K' : Act → World → Prop} {Q Q' : Exit → Act → World → Prop} (h : ∀ a w, K a w → K' a w) (hp : ∀ c a w, Q (.panic c) a w → Q' (.panic c) a w) (ho : LetsOut Q → LetsOut Q')
    (hh : o.wp P a w K Q) : o.wp P a w K' Q' := by
  unfold Oper.wp at *
  generalize (execOp a.eval o).run P w = r at *
  cases r with
  | ok n w' =>
    cases n <;> simp only [Oper.upon] at hh ⊢ <;>
      first
        | exact h _ _ hh
        | exact Calls.mono hh (fun e w'' he => by cases e <;> first | exact h _ _ he | exact hp _ _ _ he | exact ho he)
        | exact Rows.mono hh (fun _ _ he => h _ _ he)
  | halt x w' => cases x <;> simp only [Oper.upon] at hh ⊢ <;> exact hp _ _ _ hh
theorem wpOp_monoQ {i : Nat} {a : Act} {w : World} {K K' : Act → World → Prop} {Q Q' : Exit → Act → World → Prop} (h : ∀ a w, K a w → K' a w) (hp : ∀ c a w, Q (.panic c) a w → Q' (.panic c) a w) (ho : LetsOut Q → LetsOut Q')
    (hh : wpOp P ops Q i K a w) : wpOp P ops Q' i K' a w := by
  unfold wpOp at *
  split
  · exact h _ _ (by simpa [*] using hh)
  · rename_i o ho'
    simp only [ho'] at hh
    split
    · rename_i hw; simp only [hw, if_true] at hh; exact hh.imp (Oper.wp_monoQ h hp ho) (fun q => ⟨q.1, ho q.2⟩)
    · rename_i hw; simp only [hw] at hh; exact h _ _ hh
theorem wpAny_monoQ {Q Q' : Exit → Act → World → Prop} (hn : ∀ a w, Q .normal a w → Q' .normal a w) (hp : ∀ c a w, Q (.panic c) a w → Q' (.panic c) a w) (ho : LetsOut Q → LetsOut Q') :
    ∀ (fuel : Nat) (listed : Array Bool) (a : Act) (w : World), wpAny P md ops Q fuel listed a w → wpAny P md ops Q' fuel listed a w
  | 0, _, _, _, h => ⟨h.1, hn _ _ h.2⟩
  | fuel + 1, _, _, _, h => ⟨fun e => hn _ _ (h.1 e), fun i hi => wpOp_monoQ (fun a' w' h' => wpAny_monoQ hn hp ho fuel _ a' w' h') hp ho (h.2 i hi)⟩

/-- What is asked of a plan. -/
def planB (l : List Oper) (plan : List (List Nat × List Nat)) : Bool :=
  plan.all fun q => (q.1.all fun k => match l[k]? with | some o => plainOp o.op | none => false) && decide (q.2.length ≤ 1) && (q.2.all fun k => (l[k]?).isSome)

theorem quiet_steps {l : List Oper} {z : Nat} {Q : Exit → Act → World → Prop} {r : List (Nat × Bool)} {X : Act → Prop} {w : World} (hne : ∃ w, C w) (hX : ∀ a, X a → wpSteps P l.toArray C z Q r a w) :
    ∀ (qs : List Nat) (a : Act), (qs.all fun k => match l[k]? with | some o => plainOp o.op | none => false) = true → wpQuiet P l.toArray C X (pickAll l qs) a → wpSteps P l.toArray C z Q (qs.map (·, false) ++ r) a w
  | [], a, _, h => hX a h
  | k :: qs, a, hB, h => by
    simp only [List.all_cons, Bool.and_eq_true] at hB
    obtain ⟨hk, hB⟩ := hB
    cases ho : l[k]? with
    | none => rw [ho] at hk; cases hk
    | some o =>
      rw [ho] at hk
      have e : pickAll l (k :: qs) = o :: pickAll l qs := by
        show pickAt l k ++ pickAll l qs = _
        rw [pickAt_eq, ho]
        rfl
      rw [e] at h
      have ho' : l.toArray[k]? = some o := by rw [List.getElem?_toArray]; exact ho
      unfold wpQuiet at h
      by_cases hw : Region.wanted o (yielded l.toArray a.tmps) = true
      · simp only [hw, if_true] at h
        obtain ⟨v, h1, h2⟩ := h
        refine ⟨o, v, ho', .inl ⟨hw, fun w1 hC => ?_⟩, quiet_steps hne hX qs _ hB h2⟩
        have h3 := h1 w1 hC
        unfold Oper.quietAt at h3
        cases hr : (execOp a.eval o).run P w1 with
        | ok n w' =>
          rw [hr] at h3
          cases n <;> simp only [Oper.quietUpon] at h3
          case value u => exact .inl (by rw [h3.1, h3.2])
          case skip => exact .inr ⟨by rw [h3.1], h3.2⟩
          case enter f args => exact absurd hr (noEnter hk w1 f args w')
        | halt x w' => rw [hr] at h3; simp only [Oper.quietUpon] at h3
      · simp only [hw] at h
        exact ⟨o, undef, ho', .inr ⟨by simpa using hw, rfl⟩, quiet_steps hne hX qs _ hB h⟩

/-- The last operation that makes memory, if a plan ends in it. -/
def zOf (n : Nat) : List (List Nat × List Nat) → Nat
  | [] => n
  | [(_, [k])] => k
  | _ :: r => zOf n r
theorem planSteps_ne {qs ns : List Nat} {r : List (List Nat × List Nat)} (h : planSteps ((qs, ns) :: r) = []) : True := trivial
theorem steps_of_plan {l : List Oper} {Q : Exit → Act → World → Prop} {n : Nat} (hne : ∃ w, C w) : ∀ (plan : List (List Nat × List Nat)) (a : Act) (w : World), planB l plan = true → wpPlan P l C Q plan a w → wpSteps P l.toArray C (zOf n plan) (noPanic Q) (planSteps plan) a w
  | [], a, w, _, h => ⟨fun c e => (by cases e), by unfold wpPlan at h; exact h⟩
  | (qs, ns) :: r, a, w, hB, h => by
    simp only [planB, List.all_cons, Bool.and_eq_true, decide_eq_true_eq] at hB
    obtain ⟨⟨⟨hq, hl⟩, hn⟩, hr⟩ := hB
    unfold wpPlan at h
    show wpSteps _ _ _ _ _ (qs.map (·, false) ++ ns.map (·, true) ++ planSteps r) a w
    rw [List.append_assoc]
    refine quiet_steps hne (fun a' h' => ?_) qs a hq h
    match ns, hl, hn with
    | [], _, _ =>
      have h'' : MixNext P l C Q r .normal a' w := h'
      unfold MixNext at h''
      have hz : zOf n ((qs, []) :: r) = zOf n r := by
        cases r <;> rfl
      rw [hz]
      exact steps_of_plan hne r _ _ hr h''.2
    | [k], _, hn =>
      simp only [List.all_cons, List.all_nil, Bool.and_true] at hn
      cases ho : l[k]? with
      | none => rw [ho] at hn; cases hn
      | some o =>
        have e : pickAll l [k] = [o] := by
          show pickAt l k ++ [] = _
          rw [pickAt_eq, ho]
          rfl
        rw [e] at h'
        have ho' : l.toArray[k]? = some o := by rw [List.getElem?_toArray]; exact ho
        have hrec : ∀ a'' w'', ((r = [] ∨ C w'') ∧ wpPlan P l C Q r a'' w'') → (((k = zOf n ((qs, [k]) :: r) ∧ planSteps r = []) ∨ C w'') ∧ wpSteps P l.toArray C (zOf n ((qs, [k]) :: r)) (noPanic Q) (planSteps r) a'' w'') := by
          intro a'' w'' q
          cases r with
          | nil => exact ⟨Or.inl ⟨rfl, rfl⟩, fun c e => (by cases e), by have := q.2; unfold wpPlan at this; exact this⟩
          | cons x r => exact ⟨Or.inr (q.1.resolve_left (by simp)), steps_of_plan hne (x :: r) a'' w'' hr q.2⟩
        show wpOp P l.toArray (noPanic Q) k (fun a'' w'' => ((k = zOf n ((qs, [k]) :: r) ∧ planSteps r = []) ∨ C w'') ∧ wpSteps P l.toArray C (zOf n ((qs, [k]) :: r)) (noPanic Q) (planSteps r) a'' w'') a' w
        have hpq : ∀ c a w, MixNext P l C Q r (.panic c) a w → noPanic Q (.panic c) a w := fun c a w q => by unfold MixNext at q; exact q.elim
        have hoq : LetsOut (MixNext P l C Q r) → LetsOut (noPanic Q) := by
          rintro ⟨a2, w2, q⟩
          unfold MixNext at q
          exact ⟨a2, w2, fun c e => (by cases e), q⟩
        have hkq : ∀ a'' w'', wpList P l.toArray (MixNext P l C Q r) [] a'' w'' → _ := fun a'' w'' q => hrec a'' w'' (by
          have q' : MixNext P l C Q r .normal a'' w'' := q
          unfold MixNext at q'
          exact q')
        unfold wpList at h'
        unfold wpOp
        simp only [ho']
        split
        · rename_i hw
          simp only [hw, if_true] at h'
          exact h'.imp (Oper.wp_monoQ hkq hpq hoq) (fun q => ⟨q.1, hoq q.2⟩)
        · rename_i hw
          simp only [hw] at h'
          exact hkq _ _ h'
    | _ :: _ :: _, hl, _ => simp at hl
end

/-- That operation z waits for all others, as a Bool. -/
def waitsB (l : List Oper) (z : Nat) : Bool :=
  match l[z]? with
  | none => true
  | some oz => (List.range l.length).all fun i => i == z || (oz.after.any fun e => Region.binds .any e && e.on == i) || (oz.after.any fun e => Region.binds .any e && match l[e.on]? with | some o => (o.after.any fun e2 => Region.binds .any e2 && e2.on == i) | none => false)
theorem waits_of {l : List Oper} {z : Nat} (h : waitsB l z = true) : WaitsAll l.toArray z := by
  intro oz hoz i hi hne
  rw [List.getElem?_toArray] at hoz
  unfold waitsB at h
  rw [hoz] at h
  have := List.all_eq_true.1 h i (List.mem_range.2 (by simpa using hi))
  simp only [Bool.or_eq_true, beq_iff_eq, hne, false_or] at this
  rcases this with this | this
  · obtain ⟨e, he, hh⟩ := Array.any_eq_true'.1 this
    simp only [Bool.and_eq_true, beq_iff_eq] at hh
    exact Or.inl ⟨e, he, hh.1, hh.2⟩
  · obtain ⟨e, he, hh⟩ := Array.any_eq_true'.1 this
    rw [Bool.and_eq_true] at hh
    obtain ⟨h1, h2⟩ := hh
    cases ho : l[e.on]? with
    | none => rw [ho] at h2; cases h2
    | some o =>
      rw [ho] at h2
      obtain ⟨e2, he2, hh2⟩ := Array.any_eq_true'.1 h2
      simp only [Bool.and_eq_true, beq_iff_eq] at hh2
      exact Or.inr ⟨e, he, h1, o, by rw [List.getElem?_toArray]; exact ho, e2, he2, hh2.1, hh2.2⟩

/-- What may be asked of a region and a plan for it, by the kernel. -/
def mixB (l : List Oper) (plan : List (List Nat × List Nat)) : Bool :=
  Region.noSelect l.toArray && planB l plan && mixFrom l.toArray (planSteps plan) (Array.replicate l.length false) && decide ((planSteps plan).length = l.length) && waitsB l (zOf l.length plan)
/-- The worlds in which of what lay there nothing has turned. -/
def Grew (w : World) : World → Prop := fun w' => ∃ p : Regrown, w' = grow (redrawn w p.d) p.os
/-- One walk, by a plan. -/
theorem wp_region_mix {P : Program} {id : Nat} {Q : Exit → Act → World → Prop} {a : Act} {w : World} {l : List Oper} (plan : List (List Nat × List Nat)) (hm : P.follows .mixedOrders = true) (hB : mixB l plan = true)
    (h : ∀ w1, (∃ d, w1 = redrawn w d) → wpPlan P l (fun w' => ∃ p : Regrown, w' = grow (redrawn w p.d) p.os) Q plan a w1) : (Code.region id l.toArray true).wp P Q a w := by
  simp only [mixB, Bool.and_eq_true, decide_eq_true_eq] at hB
  obtain ⟨⟨⟨⟨h1, h2⟩, h3⟩, h4⟩, h5⟩ := hB
  have hC : ∃ p : Regrown, ({ w with drawn := w.drawn + 1 } : World) = grow (redrawn w p.d) p.os := ⟨⟨w.drawn + 1, #[]⟩, by rw [grow_empty]; rfl⟩
  refine wp_region_any hm ?_
  have hs := steps_of_plan (n := l.length) (C := fun w' => ∃ p : Regrown, w' = grow (redrawn w p.d) p.os) ⟨_, hC⟩ plan a _ h2 (h { w with drawn := w.drawn + 1 } ⟨_, rfl⟩)
  have hcl : Closed l.toArray (Array.replicate l.length false) := fun j o _ hj => by rw [show (Array.replicate l.length false).getD j false = false from by unfold Array.getD; split <;> simp] at hj; cases hj
  have hc := wpAnyC_of_steps (waits_of h5) h1 (fun c a w q => q.1 c rfl) _ (Array.replicate l.length false) a _ hcl (Or.inr hC) h3 hs
  rw [h4] at hc
  have := wpAny_monoQ (Q := noPanic Q) (Q' := Q) (fun a w q => q.2) (fun c a w q => q.2) (fun ⟨a, w, q⟩ => ⟨a, w, q.2⟩) _ _ _ _ (wpAny_of_C _ _ _ _ hc)
  simpa using this
theorem mixNext_mk {P : Program} {l : List Oper} {C : World → Prop} {Q : Exit → Act → World → Prop} {r : List (List Nat × List Nat)} {a : Act} {w : World} (hC : C w) (h : wpPlan P l C Q r a w) : MixNext P l C Q r .normal a w := by
  unfold MixNext; exact ⟨Or.inr hC, h⟩
theorem mixNext_last {P : Program} {l : List Oper} {C : World → Prop} {Q : Exit → Act → World → Prop} {a : Act} {w : World} (h : Q .normal a w) : MixNext P l C Q [] .normal a w := by
  unfold MixNext; exact ⟨Or.inl rfl, by unfold wpPlan; exact h⟩
theorem wpPlan_nil {P : Program} {l : List Oper} {C : World → Prop} {Q : Exit → Act → World → Prop} {a : Act} {w : World} (h : Q .normal a w) : wpPlan P l C Q [] a w := by
  unfold wpPlan; exact h
theorem wpPlan_cons {P : Program} {l : List Oper} {C : World → Prop} {Q : Exit → Act → World → Prop} {qs ns : List Nat} {r : List (List Nat × List Nat)} {a : Act} {w : World}
    (h : wpQuiet P l.toArray C (fun a' => wpList P l.toArray (MixNext P l C Q r) (pickAll l ns) a' w) (pickAll l qs) a) : wpPlan P l C Q ((qs, ns) :: r) a w := by
  unfold wpPlan; exact h
end Go.Proofs.YtbpklbhaoemkkabDoor
