/- An interval that is kept whole: what the law asks. -/
import Derived.Test.YtelpinngimohoaaDoorOffPlainM
import Derived.Test.YtelpinngimohoaaDoorDelMem
namespace Go.Proofs.YtelpinngimohoaaDoor
set_option linter.unusedSimpArgs false
set_option linter.unusedVariables false

/-- No change meets the interval. -/
def whB (a b : Nat) (l : List El) : Bool := l.all fun e => decide (e.2.1 ≤ (a : Int) ∨ (b : Int) ≤ e.1)
theorem whB_take {a b : Nat} {l : List El} {k : Nat} {e : El} (hr : l[k]? = some e) : whB a b (l.take (k + 1)) = (whB a b (l.take k) && decide (e.2.1 ≤ (a : Int) ∨ (b : Int) ≤ e.1)) := by
  unfold whB
  rw [take_snoc7 hr, List.all_append]
  simp
/-- Where the interval goes. -/
structure Mk (N : Nat) (l E : List El) (a b : Nat) (s : ByteArray) (X Y M : Nat) (t z : ByteArray) : Prop where
  hx : mvV N E a true = X
  hy : max (mvV N E a true) (mvV N E b false) = Y
  xy : X ≤ Y
  ym : Y ≤ M
  ap : cacc (apl (cel E) s.data.toList) = t
  ts : t.size = M
  sz : s.extract a b = z
  wh : whB a b l = true → t.extract X Y = z
theorem ext_cacc14 (T : List UInt8) (a b : Nat) : (cacc T).extract a b = cacc ((T.drop a).take (b - a)) := by
  have := bytes_ext (cacc T) a b
  rw [cacc_toList] at this
  rw [← this, cacc_bytes]
theorem mk_of {N : Nat} {l E : List El} {a b : Nat} {s : ByteArray} (hf : flt N l = 0) (hE : elG N [] 0 l = E) (hm : E.length ≤ 60) (hs : s.size = N) (hab : a < b) (hb : b ≤ N) :
    ∃ X Y M t z, Mk N l E a b s X Y M t z := by
  subst hE
  obtain ⟨hi, hc⟩ := built14 hf hm
  obtain ⟨_, e1⟩ := mvV_in (x := (a : Int)) hi (by omega) (by omega)
  obtain ⟨e2, _⟩ := mvV_in (x := (b : Int)) hi (by omega) (by omega)
  have hu := up_cel (elG N [] 0 l) 0 0 (Int.le_refl _) (dl_of hi).nm
  have h1 := frK_le (a : Int) (cel (elG N [] 0 l))
  have h2 := mvN_le (b : Int) (cel (elG N [] 0 l))
  refine ⟨frK (a : Int) (cel (elG N [] 0 l)), max (frK (a : Int) (cel (elG N [] 0 l))) (mvN (b : Int) (cel (elG N [] 0 l))), (cel (elG N [] 0 l)).length, _, _, e1, ?_, Nat.le_max_left _ _, by omega, rfl, ?_, rfl, ?_⟩
  · rw [e1, e2]; omega
  · rw [cacc_size, apl_len]
  · intro hw
    have hw2 : ∀ e ∈ l, e.2.1 ≤ (a : Int) ∨ (b : Int) ≤ e.1 := fun e he => by
      unfold whB at hw
      rw [List.all_eq_true] at hw
      exact of_decide_eq_true (hw e he)
    obtain ⟨pre, post, hp⟩ := bce_whole (n := (N : Int)) (a := (a : Int)) (b := (b : Int)) (by omega) (by omega) l 0 (gd_of hf).ch (by omega) hw2
    rw [hc, hp] at hu ⊢
    obtain ⟨k1, k2⟩ := run_at (a := (a : Int)) (b := (b : Int)) (by omega) (by omega) hu
    have hr := apl_run (a := (a : Int)) (b := (b : Int)) (pre := pre) (post := post) (s := s.data.toList) (by omega) (by omega) (by rw [bytes_length]; omega)
    rw [k1, k2, ext_cacc14, show max pre.length (pre.length + ((b : Int) - (a : Int)).toNat) - pre.length = ((b : Int) - (a : Int)).toNat from by omega, hr]
    rw [show s.extract a b = cacc ((s.data.toList.drop a).take (b - a)) from by rw [← bytes_ext, cacc_bytes]]
    congr 2
    omega
end Go.Proofs.YtelpinngimohoaaDoor
