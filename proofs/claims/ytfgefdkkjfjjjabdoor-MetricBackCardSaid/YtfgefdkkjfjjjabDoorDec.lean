/- The library's decoder of a string's first code point, laid at this translation; both tables that it reads. -/
import Derived.Shelf.Unicode.DecodeAny
import Derived.Lib.LaidU8
import Derived.Test.YtfgefdkkjfjjjabDoorTxt
namespace Go.Proofs
open Go.Shelf Go.RowKit
def Tryd.lays197_ren : Go.Shelf.Ren := ⟨fun | 197 => 85 | 260 => 87 | n => n, fun | 0 => 0 | 3 => 3 | 4 => 4 | 5 => 5 | 9 => 9 | 21 => 21 | 46 => 129 | 105 => 132 | 119 => 137 | 138 => 139 | 139 => 140 | n => n, fun | 3 => 2 | 4 => 3 | n => n⟩
theorem Tryd.lays197 : Go.Proofs.Lays.n197 Tryd.prog Tryd.lays197_ren := {
  mixed := by kernel_rfl
  f197 := Tryd.func85.trans (congrArg some (by kernel_rfl))
  f260 := Tryd.func87.trans (congrArg some (by kernel_rfl))
  t0 := Tryd.underlying0
  a0 := Tryd.isAgg0
  z0 := Tryd.sizeOf0
  v0 := Tryd.zeroValue0
  t3 := Tryd.underlying3
  a3 := Tryd.isAgg3
  z3 := Tryd.sizeOf3
  v3 := Tryd.zeroValue3
  t4 := Tryd.underlying4
  a4 := Tryd.isAgg4
  z4 := Tryd.sizeOf4
  v4 := Tryd.zeroValue4
  t5 := Tryd.underlying5
  a5 := Tryd.isAgg5
  z5 := Tryd.sizeOf5
  v5 := Tryd.zeroValue5
  t9 := Tryd.underlying9
  a9 := Tryd.isAgg9
  z9 := Tryd.sizeOf9
  v9 := Tryd.zeroValue9
  t21 := Tryd.underlying21
  a21 := Tryd.isAgg21
  z21 := Tryd.sizeOf21
  v21 := Tryd.zeroValue21
  t46 := Tryd.underlying129
  a46 := Tryd.isAgg129
  z46 := Tryd.sizeOf129
  v46 := Tryd.zeroValue129
  t105 := Tryd.underlying132
  a105 := Tryd.isAgg132
  z105 := Tryd.sizeOf132
  v105 := Tryd.zeroValue132
  t119 := Tryd.underlying137
  a119 := Tryd.isAgg137
  z119 := Tryd.sizeOf137
  t138 := Tryd.underlying139
  a138 := Tryd.isAgg139
  z138 := Tryd.sizeOf139
  v138 := Tryd.zeroValue139
  t139 := Tryd.underlying140
  a139 := Tryd.isAgg140
  z139 := Tryd.sizeOf140
  v139 := Tryd.zeroValue140
  g3 := by kernel_rfl
  g4 := by kernel_rfl }
theorem Tryd.u8extra : U8Extra Tryd.prog Tryd.lays197_ren := {
  n3 := by kernel_rfl
  n4 := by kernel_rfl
  y3 := by kernel_rfl
  y4 := by kernel_rfl
  c5 := by kernel_rfl
  c119 := by kernel_rfl
  c138 := by kernel_rfl }
end Go.Proofs
namespace Go.Proofs.YtfgefdkkjfjjjabDoor
open Go.RowKit Go.Sort

/-- All tables lie in the world: the project's, and both of the library's. -/
structure Tabs (w : World) (tb : Nat × Nat) : Prop where
  own : Tab w tb
  lib : Lib.Utf8Tabs 2 3 w
theorem Tabs.later {w w' : World} {tb : Nat × Nat} (h : Tabs w tb) (hb : Below w.heap.size w w') : Tabs w' tb :=
  ⟨h.own.later hb, Utf8Tabs_below h.lib hb⟩

/-- The library's decoder where a code point begins. -/
theorem decode_any (s : ByteArray) (c : Int) (rest : List UInt8) (hc : scalar c) (hd : s.data.toList = enc c ++ rest) (w : World) (tb : Nat × Nat) (hT : Tabs w tb) :
    Calls Tryd.prog 85 #[.string s] w fun e w' => e = .returned (.tuple #[.int .i32 c, .int .i64 ((enc c).length : Nat)]) ∧ Below w.heap.size w w' := by
  have h := Any.utf8_DecodeRuneInString Tryd.lays197 s w hT.lib
  have hl := congrArg List.length hd
  rw [List.length_append, bytes_length] at hl
  have hel := enc_length c
  have e : Lib.decodeGo s = (c.toNat, (enc c).length) := by
    unfold Lib.decodeGo
    rw [if_neg (by omega)]
    exact decode_enc s 0 c hc rest hd
  rw [e] at h
  have h0 : ((c.toNat : Nat) : Int) = c := by unfold scalar at hc; omega
  simp only [h0] at h
  exact h
end Go.Proofs.YtfgefdkkjfjjjabDoor
