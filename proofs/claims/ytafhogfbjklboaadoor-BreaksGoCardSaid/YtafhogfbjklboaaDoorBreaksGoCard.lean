/- BreaksGo answers true at every row of bytes, every byte, every text: breaks go along with their texts. Condition: the tables of package unicode/utf8, and that of package utf, hold what their texts say. -/
import Derived.Test.YtafhogfbjklboaaDoorBrkGo
import Derived.Test.YtafhogfbjklboaaDoorBrkLaid
import Derived.ShutString
import Derived.ChangeOld
namespace Go.Proofs.YtafhogfbjklboaaDoor.breaksGo
open Go.ChangeShapes Go.WideShapes Go.ChangeAt Go.RowKit
open Go.ChangeMaps (open_string shut_string)

theorem laidOut : laidOutB Tryd.prog = true := by kernel_rfl
set_option maxRecDepth 100000 in
/-- What the walk gives, for every argument and every world that holds the table. -/
theorem contract (H : Type) (enc : TypeId × Value → H) (W : World) (base : Nat) (args : Array Value) (ds gs : List (DataW H)) (before : List MemPlace)
    (hval : ∀ (j : Nat) t v, Tryd.f7.params[j]? = some t → args[j]? = some v → Value.okWide Tryd.prog W .any base t v)
    (hW : DataW.Whole enc Tryd.prog Tryd.f7.params.toList Rows.breaksGoSpec.vars false W args.toList ds gs before) (hL : laidMetH Tryd.prog Rows.breaksGoRow.laid W) :
    Calls Tryd.prog 7 args W fun e W' => ∃ v, e = .returned v ∧ Rows.breaksGoSpec.post enc Tryd.prog Tryd.f7 false true false false W args v W' := by
  obtain ⟨tb, hT⟩ := tab_of_laid (by simp [Rows.breaksGoRow]) hL
  have hU := ut_of_laid (by simp [Rows.breaksGoRow]) (by simp [Rows.breaksGoRow]) hL
  have hW' := hW
  obtain ⟨p, q, hA0, hV, rfl, hfz, hnd⟩ := hW
  have hA : DataW.TrodAll enc Tryd.prog W 0 (fun _ => true) true Tryd.f7.params.toList args.toList ds p := hA0
  rw [Tryd.params7] at hA hval
  obtain ⟨v0, vs0, d0, ds0, p0, q0, hargs, rfl, rfl, h0, r0⟩ := trodAll_cons hA
  obtain ⟨v1, vs1, d1, ds1, p1, q1, rfl, rfl, rfl, h1, r1⟩ := trodAll_cons r0
  obtain ⟨v2, vs2, d2, ds2, p2, q2, rfl, rfl, rfl, h2, r2⟩ := trodAll_cons r1
  obtain ⟨rfl, rfl, rfl⟩ := trodAll_nil r2
  obtain rfl : args = #[v0, v1, v2] := by cases args; simp_all
  obtain ⟨rfl, rfl⟩ := trodVars_none hV
  have k0 := h0
  have lt0 : ∀ x ∈ p0, x.block < W.heap.size := by obtain ⟨m, hm⟩ := k0; exact DataW.trod_lt m _ _ _ hm
  obtain ⟨la, llen, lcap, rfl⟩ := okWide_slice Tryd.underlying45 (hval 0 45 v0 rfl rfl)
  obtain ⟨fuel0, hf0⟩ := h0
  obtain ⟨l, row0, len0, sm0⟩ := u8r_open (v := Value.slice la llen lcap) (by simpa [Value.cells] using hf0)
  obtain ⟨k, rfl, rfl, rfl, w1⟩ := open_int Tryd.underlying5 (hval 1 5 v1 rfl rfl) h1
  obtain ⟨s, rfl, rfl, rfl, w2⟩ := open_string Tryd.underlying9 (hval 2 9 v2 rfl rfl) h2
  clear hA0
  refine (go_any16 k s len0 sm0 (by have := bounds_u8 w1; omega) w2 tb hT hU row0).mono fun e W' ⟨he, bel⟩ => ?_
  subst he
  exact ⟨_, rfl, _, _, _, [], _, [], hW', trodAll_mk1 (shut_bool Tryd.underlying4 _), (trodAll_cons_mk (Below.trod laidOut (by kernel_rfl) (of_decide_eq_true (by kernel_rfl)) k0 bel lt0) (trodAll_cons_mk (shut_int Tryd.underlying5 w1) (trodAll_cons_mk (shut_string Tryd.underlying9 w2) trodAll_mk0))), rfl, bel.frame _, fun h => by cases h⟩

theorem laid_met (os : Os) : laidMet Tryd.prog Rows.breaksGoRow.laid ((({ World.holding Tryd.prog os ⟨#[.cells tabCells 93], #[], []⟩ with heap := ((((World.holding Tryd.prog os ⟨#[.cells tabCells 93], #[], []⟩).heap).modify 2 fun | .cells _ t frozen => .cells #[.slice (some ⟨(World.settled Tryd.prog os).heap.size, 0, none⟩) 9 9] t frozen | o => o).modify 0 fun | .cells _ t frozen => .cells firstCells t frozen | o => o).modify 1 fun | .cells _ t frozen => .cells acceptCells t frozen | o => o } : World)).forCall (fun _ _ => 0) ⟨#[], #[.slice none 0 0, .int .u8 0, .string ⟨#[]⟩], []⟩).memory :=
  laidMet_of_run' 8 (by kernel_rfl) (by kernel_rfl)
theorem reads (os : Os) {H : Type} (enc : TypeId × Value → H) : ∃ places, DataW.whole enc Tryd.prog ((({ World.holding Tryd.prog os ⟨#[.cells tabCells 93], #[], []⟩ with heap := ((((World.holding Tryd.prog os ⟨#[.cells tabCells 93], #[], []⟩).heap).modify 2 fun | .cells _ t frozen => .cells #[.slice (some ⟨(World.settled Tryd.prog os).heap.size, 0, none⟩) 9 9] t frozen | o => o).modify 0 fun | .cells _ t frozen => .cells firstCells t frozen | o => o).modify 1 fun | .cells _ t frozen => .cells acceptCells t frozen | o => o } : World)).forCall (fun _ _ => 0) ⟨#[], #[.slice none 0 0, .int .u8 0, .string ⟨#[]⟩], []⟩).memory Tryd.f7.params.toList Rows.breaksGoSpec.vars false (#[.slice none 0 0, .int .u8 0, .string ⟨#[]⟩] : Array Value).toList 8 = some ([.nil, .lit (.int .u8 0), .lit (.string [])], [], places) :=
  ⟨[], by kernel_rfl⟩

set_option maxRecDepth 100000 in
theorem lifted (os : Os) (started : os.Started) (H : Type) (enc : TypeId × Value → H) (F : Stop.Interp) :
    ReturnsInHanded {} Tryd.checked os 7 .any ((OpenSpec.ofChange Rows.breaksGoSpec).preRow enc Tryd.prog Tryd.f7 Rows.breaksGoRow.domain false Rows.breaksGoRow.laid) (((OpenSpec.ofChange Rows.breaksGoSpec).at F).post enc Tryd.prog Tryd.f7 false true false false) := by
  obtain ⟨places, hx⟩ := reads os enc
  refine returnsInHanded_of_row (C := Tryd.checked) (s := (OpenSpec.ofChange Rows.breaksGoSpec)) own started (by kernel_rfl) Tryd.func7
    (witness_row_atRef (enc := enc) (C := Tryd.checked) false { World.holding Tryd.prog os ⟨#[.cells tabCells 93], #[], []⟩ with heap := ((((World.holding Tryd.prog os ⟨#[.cells tabCells 93], #[], []⟩).heap).modify 2 fun | .cells _ t frozen => .cells #[.slice (some ⟨(World.settled Tryd.prog os).heap.size, 0, none⟩) 9 9] t frozen | o => o).modify 0 fun | .cells _ t frozen => .cells firstCells t frozen | o => o).modify 1 fun | .cells _ t frozen => .cells acceptCells t frozen | o => o } #[.slice none 0 0, .int .u8 0, .string ⟨#[]⟩] rfl (by kernel_rfl) (by kernel_rfl) (by kernel_rfl)
      (OpenSpec.preRow_of_cond 8 hx (by kernel_rfl) (fun k hk => by cases hk) (by kernel_rfl) (laid_met os))) ?_
  intro W base args ds gs before hval hW _ _ _ hL _ _
  exact contract H enc W base args ds gs before hval hW hL

theorem said : Rows.BreaksGoSaid :=
  OpenClaim.holds_of_cond 7 Tryd.f7 rfl rfl rfl rfl rfl rfl rfl ⟨rfl, rfl, rfl, rfl, rfl⟩ rfl rfl rfl rfl rfl (by kernel_rfl) Tryd.func7 (by kernel_rfl)
    (of_decide_eq_true (by kernel_rfl)) (by unfold Func.isWrapper; first | (rw [if_pos (by decide +kernel)]; kernel_rfl) | (rw [if_neg (by decide +kernel)]; exact ⟨rfl, rfl⟩))
    (fun os started H enc _ F => by rw [OpenClaim.pre_eq_preRow]; exact lifted os started H enc F)

theorem noStandIn : ∀ (j : Nat) t, Tryd.f7.params[j]? = some t → Tryd.prog.wantsStandIn t = false := by
  intro j t ht
  rw [Tryd.params7] at ht
  have := Array.mem_of_getElem? ht
  simp at this
  rcases this with rfl | rfl | rfl
  · exact (show Tryd.prog.wantsStandIn 45 = false by kernel_rfl)
  · exact (show Tryd.prog.wantsStandIn 5 = false by kernel_rfl)
  · exact (show Tryd.prog.wantsStandIn 9 = false by kernel_rfl)
theorem plain (f : FuncId) (fn : Func) (hf : Tryd.pinned.checked.prog.funcNamed Rows.breaksGoRow.func = some f) (hfn : Tryd.pinned.checked.prog.funcs[f]? = some fn) :
    false = Tryd.pinned.checked.prog.looks [] ∧ ∀ (j : Nat) t, fn.params[j]? = some t → Tryd.pinned.checked.prog.wantsStandIn t = false := by
  obtain rfl : f = 7 := Option.some.inj ((show Tryd.prog.funcNamed Rows.breaksGoRow.func = some 7 by kernel_rfl).symm.trans hf) |>.symm
  obtain rfl : fn = Tryd.f7 := (Option.some.inj (Tryd.func7.symm.trans hfn)).symm
  exact ⟨by kernel_rfl, noStandIn⟩
end Go.Proofs.YtafhogfbjklboaaDoor.breaksGo
namespace Go.Proofs.YtafhogfbjklboaaDoor
/-- The card. -/
theorem breaksGo_card : Rows.BreaksGoCardSaid :=
  Claim7.holds_tied_plain_at .later [] _ _ _ _ breaksGo.said (fun _ h => by cases h) (by kernel_rfl) (fun _ h => by cases h) breaksGo_row_tie rfl ⟨rfl, rfl⟩ (by kernel_rfl) rfl breaksGo.plain (by kernel_rfl)
end Go.Proofs.YtafhogfbjklboaaDoor
