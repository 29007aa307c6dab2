/- A region's mix, over more operations that enter no function: 'build', 'len'. -/
import Derived.Test.YtafhogfbjklboaaDoorTurns
namespace Go.Proofs.YtafhogfbjklboaaDoor
open Go Go.Sort
set_option linter.unusedSimpArgs false
set_option linter.unusedVariables false

/-- Operations that enter no function. -/
def plainOpP : Op → Bool
  | .build .. => true
  | .call c => match c.callee with | .builtin .len => true | .builtin .min => true | .builtin .max => true | _ => false
  | o => plainOp o
theorem noEnterP {P : Program} {ρ : Operand → Value} {o : Oper} (h : plainOpP o.op = true) (w : World) (f : FuncId) (args : Array Value) (w' : World) : (execOp ρ o).run P w ≠ .ok (.enter f args) w' := by
  by_cases hp : plainOp o.op = true
  · exact noEnter hp w f args w'
  · cases ho : o.op with
    | build t parts =>
      unfold execOp
      simp only [ho]
      exact value_noEnter _ w f args w'
    | call c =>
      rw [ho] at h
      simp only [plainOpP] at h
      cases hc : c.callee with
      | builtin b =>
        rw [hc] at h
        cases b <;> simp only [Bool.false_eq_true] at h
        all_goals
          unfold execOp
          simp only [ho, resolve, hc]
          intro e
          obtain ⟨v1, w1, e1, e⟩ := bind_ok e
          simp only [Sem.run_pure] at e1
          cases e1
          exact value_noEnter _ _ f args w' e
      | _ => rw [hc] at h; simp only [Bool.false_eq_true] at h
    | _ => rw [ho] at h hp; exact absurd h hp
section
variable {P : Program} {C : World → Prop}
/-- What is asked of a plan. -/
def planBP (l : List Oper) (plan : List (List Nat × List Nat)) : Bool :=
  plan.all fun q => (q.1.all fun k => match l[k]? with | some o => plainOpP o.op | none => false) && decide (q.2.length ≤ 1) && (q.2.all fun k => (l[k]?).isSome)

theorem quiet_stepsP {l : List Oper} {z : Nat} {Q : Exit → Act → World → Prop} {r : List (Nat × Bool)} {X : Act → Prop} {w : World} (hne : ∃ w, C w) (hX : ∀ a, X a → wpSteps P l.toArray C z Q r a w) :
    ∀ (qs : List Nat) (a : Act), (qs.all fun k => match l[k]? with | some o => plainOpP o.op | none => false) = true → wpQuiet P l.toArray C X (pickAll l qs) a → wpSteps P l.toArray C z Q (qs.map (·, false) ++ r) a w
  | [], a, _, h => hX a h
  | k :: qs, a, hB, h => by
    simp only [List.all_cons, Bool.and_eq_true] at hB
    obtain ⟨hk, hB⟩ := hB
    cases ho : l[k]? with
    | none => rw [ho] at hk; cases hk
    | some o =>
      rw [ho] at hk
      have e : pickAll l (k :: qs) = o :: pickAll l qs := by
        show pickAt l k ++ pickAll l qs = _
        rw [pickAt_eq, ho]
        rfl
      rw [e] at h
      have ho' : l.toArray[k]? = some o := by rw [List.getElem?_toArray]; exact ho
      unfold wpQuiet at h
      by_cases hw : Region.wanted o (yielded l.toArray a.tmps) = true
      · simp only [hw, if_true] at h
        obtain ⟨v, h1, h2⟩ := h
        refine ⟨o, v, ho', .inl ⟨hw, fun w1 hC => ?_⟩, quiet_stepsP hne hX qs _ hB h2⟩
        have h3 := h1 w1 hC
        unfold Oper.quietAt at h3
        cases hr : (execOp a.eval o).run P w1 with
        | ok n w' =>
          rw [hr] at h3
          cases n <;> simp only [Oper.quietUpon] at h3
          case value u => exact .inl (by rw [h3.1, h3.2])
          case skip => exact .inr ⟨by rw [h3.1], h3.2⟩
          case enter f args => exact absurd hr (noEnterP hk w1 f args w')
        | halt x w' => rw [hr] at h3; simp only [Oper.quietUpon] at h3
      · simp only [hw] at h
        exact ⟨o, undef, ho', .inr ⟨by simpa using hw, rfl⟩, quiet_stepsP hne hX qs _ hB h⟩

theorem steps_of_planP {l : List Oper} {Q : Exit → Act → World → Prop} {n : Nat} (hne : ∃ w, C w) : ∀ (plan : List (List Nat × List Nat)) (a : Act) (w : World), planBP l plan = true → wpPlan P l C Q plan a w → wpSteps P l.toArray C (zOf n plan) (noPanic Q) (planSteps plan) a w
  | [], a, w, _, h => ⟨fun c e => (by cases e), by unfold wpPlan at h; exact h⟩
  | (qs, ns) :: r, a, w, hB, h => by
    simp only [planBP, List.all_cons, Bool.and_eq_true, decide_eq_true_eq] at hB
    obtain ⟨⟨⟨hq, hl⟩, hn⟩, hr⟩ := hB
    unfold wpPlan at h
    show wpSteps _ _ _ _ _ (qs.map (·, false) ++ ns.map (·, true) ++ planSteps r) a w
    rw [List.append_assoc]
    refine quiet_stepsP hne (fun a' h' => ?_) qs a hq h
    match ns, hl, hn with
    | [], _, _ =>
      have h'' : MixNext P l C Q r .normal a' w := h'
      unfold MixNext at h''
      have hz : zOf n ((qs, []) :: r) = zOf n r := by
        cases r <;> rfl
      rw [hz]
      exact steps_of_planP hne r _ _ hr h''.2
    | [k], _, hn =>
      simp only [List.all_cons, List.all_nil, Bool.and_true] at hn
      cases ho : l[k]? with
      | none => rw [ho] at hn; cases hn
      | some o =>
        have e : pickAll l [k] = [o] := by
          show pickAt l k ++ [] = _
          rw [pickAt_eq, ho]
          rfl
        rw [e] at h'
        have ho' : l.toArray[k]? = some o := by rw [List.getElem?_toArray]; exact ho
        have hrec : ∀ a'' w'', ((r = [] ∨ C w'') ∧ wpPlan P l C Q r a'' w'') → (((k = zOf n ((qs, [k]) :: r) ∧ planSteps r = []) ∨ C w'') ∧ wpSteps P l.toArray C (zOf n ((qs, [k]) :: r)) (noPanic Q) (planSteps r) a'' w'') := by
          intro a'' w'' q
          cases r with
          | nil => exact ⟨Or.inl ⟨rfl, rfl⟩, fun c e => (by cases e), by have := q.2; unfold wpPlan at this; exact this⟩
          | cons x r => exact ⟨Or.inr (q.1.resolve_left (by simp)), steps_of_planP hne (x :: r) a'' w'' hr q.2⟩
        show wpOp P l.toArray (noPanic Q) k (fun a'' w'' => ((k = zOf n ((qs, [k]) :: r) ∧ planSteps r = []) ∨ C w'') ∧ wpSteps P l.toArray C (zOf n ((qs, [k]) :: r)) (noPanic Q) (planSteps r) a'' w'') a' w
        have hpq : ∀ c a w, MixNext P l C Q r (.panic c) a w → noPanic Q (.panic c) a w := fun c a w q => by unfold MixNext at q; exact q.elim
        have hoq : LetsOut (MixNext P l C Q r) → LetsOut (noPanic Q) := by
          rintro ⟨a2, w2, q⟩
          unfold MixNext at q
          exact ⟨a2, w2, fun c e => (by cases e), q⟩
        have hkq : ∀ a'' w'', wpList P l.toArray (MixNext P l C Q r) [] a'' w'' → _ := fun a'' w'' q => hrec a'' w'' (by
          have q' : MixNext P l C Q r .normal a'' w'' := q
          unfold MixNext at q'
          exact q')
        unfold wpList at h'
        unfold wpOp
        simp only [ho']
        split
        · rename_i hw
          simp only [hw, if_true] at h'
          exact h'.imp (Oper.wp_monoQ hkq hpq hoq) (fun q => ⟨q.1, hoq q.2⟩)
        · rename_i hw
          simp only [hw] at h'
          exact hkq _ _ h'
    | _ :: _ :: _, hl, _ => simp at hl
end
def mixBP (l : List Oper) (plan : List (List Nat × List Nat)) : Bool :=
  Region.noSelect l.toArray && planBP l plan && mixFrom l.toArray (planSteps plan) (Array.replicate l.length false) && decide ((planSteps plan).length = l.length) && waitsB l (zOf l.length plan)
theorem wp_region_mixP {P : Program} {id : Nat} {Q : Exit → Act → World → Prop} {a : Act} {w : World} {l : List Oper} (plan : List (List Nat × List Nat)) (hm : P.follows .mixedOrders = true) (hB : mixBP l plan = true)
    (h : ∀ w1, (∃ d, w1 = redrawn w d) → wpPlan P l (fun w' => ∃ p : Regrown, w' = grow (redrawn w p.d) p.os) Q plan a w1) : (Code.region id l.toArray true).wp P Q a w := by
  simp only [mixBP, Bool.and_eq_true, decide_eq_true_eq] at hB
  obtain ⟨⟨⟨⟨h1, h2⟩, h3⟩, h4⟩, h5⟩ := hB
  have hC : ∃ p : Regrown, ({ w with drawn := w.drawn + 1 } : World) = grow (redrawn w p.d) p.os := ⟨⟨w.drawn + 1, #[]⟩, by rw [grow_empty]; rfl⟩
  refine wp_region_any hm ?_
  have hs := steps_of_planP (n := l.length) (C := fun w' => ∃ p : Regrown, w' = grow (redrawn w p.d) p.os) ⟨_, hC⟩ plan a _ h2 (h { w with drawn := w.drawn + 1 } ⟨_, rfl⟩)
  have hcl : Closed l.toArray (Array.replicate l.length false) := fun j o _ hj => by rw [show (Array.replicate l.length false).getD j false = false from by unfold Array.getD; split <;> simp] at hj; cases hj
  have hc := wpAnyC_of_steps (waits_of h5) h1 (fun c a w q => q.1 c rfl) _ (Array.replicate l.length false) a _ hcl (Or.inr hC) h3 hs
  rw [h4] at hc
  have := wpAny_monoQ (Q := noPanic Q) (Q' := Q) (fun a w q => q.2) (fun c a w q => q.2) (fun ⟨a, w, q⟩ => ⟨a, w, q.2⟩) _ _ _ _ (wpAny_of_C _ _ _ _ hc)
  simpa using this
end Go.Proofs.YtafhogfbjklboaaDoor
