/- The library's decoder of a string's first code point, laid at this translation; both tables that it reads. -/
import Derived.Shelf.Unicode.DecodeAny
import Derived.Lib.LaidU8
import Derived.Test.YtfgefdkkjfjjjabGreatDoorTxt
namespace Go.Proofs
open Go.Shelf Go.RowKit
def Tryz.lays197_ren : Go.Shelf.Ren := ⟨fun | 197 => 84 | 260 => 92 | n => n, fun | 0 => 0 | 3 => 3 | 4 => 4 | 5 => 5 | 9 => 9 | 21 => 21 | 46 => 88 | 105 => 126 | 119 => 134 | 138 => 136 | 139 => 137 | n => n, fun | 3 => 1 | 4 => 2 | n => n⟩
theorem Tryz.lays197 : Go.Proofs.Lays.n197 Tryz.prog Tryz.lays197_ren := {
  mixed := by kernel_rfl
  f197 := Tryz.func84.trans (congrArg some (by kernel_rfl))
  f260 := Tryz.func92.trans (congrArg some (by kernel_rfl))
  t0 := Tryz.underlying0
  a0 := Tryz.isAgg0
  z0 := Tryz.sizeOf0
  v0 := Tryz.zeroValue0
  t3 := Tryz.underlying3
  a3 := Tryz.isAgg3
  z3 := Tryz.sizeOf3
  v3 := Tryz.zeroValue3
  t4 := Tryz.underlying4
  a4 := Tryz.isAgg4
  z4 := Tryz.sizeOf4
  v4 := Tryz.zeroValue4
  t5 := Tryz.underlying5
  a5 := Tryz.isAgg5
  z5 := Tryz.sizeOf5
  v5 := Tryz.zeroValue5
  t9 := Tryz.underlying9
  a9 := Tryz.isAgg9
  z9 := Tryz.sizeOf9
  v9 := Tryz.zeroValue9
  t21 := Tryz.underlying21
  a21 := Tryz.isAgg21
  z21 := Tryz.sizeOf21
  v21 := Tryz.zeroValue21
  t46 := Tryz.underlying88
  a46 := Tryz.isAgg88
  z46 := Tryz.sizeOf88
  v46 := Tryz.zeroValue88
  t105 := Tryz.underlying126
  a105 := Tryz.isAgg126
  z105 := Tryz.sizeOf126
  v105 := Tryz.zeroValue126
  t119 := Tryz.underlying134
  a119 := Tryz.isAgg134
  z119 := Tryz.sizeOf134
  t138 := Tryz.underlying136
  a138 := Tryz.isAgg136
  z138 := Tryz.sizeOf136
  v138 := Tryz.zeroValue136
  t139 := Tryz.underlying137
  a139 := Tryz.isAgg137
  z139 := Tryz.sizeOf137
  v139 := Tryz.zeroValue137
  g3 := by kernel_rfl
  g4 := by kernel_rfl }
theorem Tryz.u8extra : U8Extra Tryz.prog Tryz.lays197_ren := {
  n3 := by kernel_rfl
  n4 := by kernel_rfl
  y3 := by kernel_rfl
  y4 := by kernel_rfl
  c5 := by kernel_rfl
  c119 := by kernel_rfl
  c138 := by kernel_rfl }
end Go.Proofs
namespace Go.Proofs.YtfgefdkkjfjjjabGreatDoor
open Go.RowKit Go.Sort

/-- All tables lie in the world: the project's, and both of the library's. -/
structure Tabs (w : World) (tb : Nat × Nat) : Prop where
  own : Tab w tb
  lib : Lib.Utf8Tabs 1 2 w
theorem Tabs.later {w w' : World} {tb : Nat × Nat} (h : Tabs w tb) (hb : Below w.heap.size w w') : Tabs w' tb :=
  ⟨h.own.later hb, Utf8Tabs_below h.lib hb⟩

/-- The library's decoder where a code point begins. -/
theorem decode_any (s : ByteArray) (c : Int) (rest : List UInt8) (hc : scalar c) (hd : s.data.toList = enc c ++ rest) (w : World) (tb : Nat × Nat) (hT : Tabs w tb) :
    Calls Tryz.prog 84 #[.string s] w fun e w' => e = .returned (.tuple #[.int .i32 c, .int .i64 ((enc c).length : Nat)]) ∧ Below w.heap.size w w' := by
  have h := Any.utf8_DecodeRuneInString Tryz.lays197 s w hT.lib
  have hl := congrArg List.length hd
  rw [List.length_append, bytes_length] at hl
  have hel := enc_length c
  have e : Lib.decodeGo s = (c.toNat, (enc c).length) := by
    unfold Lib.decodeGo
    rw [if_neg (by omega)]
    exact decode_enc s 0 c hc rest hd
  rw [e] at h
  have h0 : ((c.toNat : Nat) : Int) = c := by unfold scalar at hc; omega
  simp only [h0] at h
  exact h
end Go.Proofs.YtfgefdkkjfjjjabGreatDoor
