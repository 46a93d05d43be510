/-
  DERIVED: THE SHELF's CONTRACTS AT THIS DUMP, IN PLAIN WORDS (tools/lay-plain.mjs out of 'TryzShelf.lean', which tools/lay-shelf.mjs wrote): THE SAME DECLARATIONS UNDER THE SAME NAMES: 'import', 'namespace', 'open', 'def', 'theorem' AND NOTHING ELSE: no command of the shelf's: FOR A HAND-IN. Each laying: the table of numbers ('.._ren') and one theorem, a field a fact of the dump's own or the kernel's comparison; each contract: ONE APPLICATION.
  THE PROGRAM's SETS: the walks of One, Of, Except, compare, of the library's BinarySearchFunc at ranges, and of Has: a number is in a set just if it is a rune in one of the ranges, or, where all others are meant, is not. Conditions: the row's length; the ranges are in order.
  THE PROGRAM's SETS: the walks of the library's BinarySearchFunc at ranges and of Has: a number is in a set just if it is a rune in one of the ranges, or, where all others are meant, is not. Conditions: the row's length; the ranges are in order.
  THE FORM OF RULES, without the program: a node without those around it that mean the same. Nothing of the program is run here. Conditions stand at each fact.
  THE PROGRAM's TREES, as memory, held against the table of nodes that the form makes: each node's block; a node that has one part and repeats nothing is its part. How trees stand while other memory is written, and how one node is added. Nothing of the program is run here. Conditions stand at each fact.
-/
import Derived.Shelf.Small.Utf8
import Derived.Shelf.Small.Bits
import Derived.Shelf.Small.Strs
import Derived.Shelf.Small.Wraps
import Derived.Shelf.Strconv.Itoa0
import Derived.Shelf.LaysM
import Derived.Shelf.Strconv.Clone
import Derived.Shelf.Strconv.SyntaxError
import Derived.Shelf.LaysC
import Derived.Shelf.Strconv.ToError
import Derived.Shelf.Strings.Search1
import Derived.Shelf.Strings.Runes
import Derived.Shelf.Unicode.DecodeSlow
import Derived.Shelf.Unicode.DecodeAny
import Derived.Test.YtnclmcngdcncdaaGreatDoorChecked
import Derived.Test.YtnclmcngdcncdaaGreatDoorJ02
import Derived.Test.YtnclmcngdcncdaaGreatDoorJ01
namespace Go.Proofs
open Go.Shelf
def Tryz.lays119_ren : Go.Shelf.Ren := ⟨fun | 119 => 75 | n => n, fun | 21 => 21 | 4 => 4 | n => n, fun | n => n⟩
theorem Tryz.lays119 : Go.Proofs.Lays.n119 Tryz.prog Tryz.lays119_ren := {
  mixed := by kernel_rfl
  f119 := Tryz.func75.trans (congrArg some (by kernel_rfl))
  t4 := Tryz.underlying4
  a4 := Tryz.isAgg4
  z4 := Tryz.sizeOf4
  v4 := Tryz.zeroValue4
  t21 := Tryz.underlying21
  a21 := Tryz.isAgg21
  z21 := Tryz.sizeOf21
  v21 := Tryz.zeroValue21 }
/-- utf8.ValidRune: "ValidRune reports whether r can be legally encoded as UTF-8. Code points that are out of range or a surrogate half are illegal.": IT RETURNS 'Lib.validRune r'; the world is as it was. (LAID: no walk: one application.) -/
theorem Tryz.utf8_ValidRune (r : Int) (w : World) :
    Calls Tryz.prog 75 #[.int .i32 r] w fun e w' => e = .returned (.bool (Lib.validRune r)) ∧ w' = w := Any.utf8_ValidRune Tryz.lays119 r w
def Tryz.lays128_ren : Go.Shelf.Ren := ⟨fun | 128 => 146 | n => n, fun | 51 => 206 | 3 => 3 | 4 => 4 | 46 => 173 | 5 => 5 | 9 => 9 | n => n, fun | n => n⟩
theorem Tryz.lays128 : Go.Proofs.Lays.n128 Tryz.prog Tryz.lays128_ren := {
  mixed := by kernel_rfl
  f128 := Tryz.func146.trans (congrArg some (by kernel_rfl))
  t3 := Tryz.underlying3
  a3 := Tryz.isAgg3
  z3 := Tryz.sizeOf3
  v3 := Tryz.zeroValue3
  t4 := Tryz.underlying4
  a4 := Tryz.isAgg4
  z4 := Tryz.sizeOf4
  v4 := Tryz.zeroValue4
  t5 := Tryz.underlying5
  a5 := Tryz.isAgg5
  z5 := Tryz.sizeOf5
  v5 := Tryz.zeroValue5
  t9 := Tryz.underlying9
  a9 := Tryz.isAgg9
  z9 := Tryz.sizeOf9
  v9 := Tryz.zeroValue9
  t46 := Tryz.underlying173
  a46 := Tryz.isAgg173
  z46 := Tryz.sizeOf173
  v46 := Tryz.zeroValue173
  t51 := Tryz.underlying206
  a51 := Tryz.isAgg206
  z51 := Tryz.sizeOf206
  v51 := Tryz.zeroValue206 }
/-- bits.Len32: "Len32 returns the minimum number of bits required to represent x; the result is 0 for x == 0.": IT RETURNS 'Lib.bitLen x'; the world is as it was. ('h0', 'h1': x is a uint32.) (LAID: no walk: one application.) -/
theorem Tryz.bits_Len32 (x : Int) (w : World) (h0 : 0 ≤ x) (h1 : x ≤ 4294967295) :
    Calls Tryz.prog 146 #[.int .u32 x] w fun e w' => e = .returned (.int .i64 (Lib.bitLen x.toNat)) ∧ w' = w := Any.bits_Len32 Tryz.lays128 x w h0 h1
def Tryz.lays125_ren : Go.Shelf.Ren := ⟨fun | 125 => 133 | 128 => 146 | 129 => 147 | n => n, fun | 46 => 173 | 3 => 3 | 51 => 206 | 53 => 110 | 4 => 4 | 5 => 5 | 9 => 9 | n => n, fun | n => n⟩
theorem Tryz.lays125 : Go.Proofs.Lays.n125 Tryz.prog Tryz.lays125_ren := {
  mixed := by kernel_rfl
  f125 := Tryz.func133.trans (congrArg some (by kernel_rfl))
  f128 := Tryz.func146.trans (congrArg some (by kernel_rfl))
  f129 := Tryz.func147.trans (congrArg some (by kernel_rfl))
  t3 := Tryz.underlying3
  a3 := Tryz.isAgg3
  z3 := Tryz.sizeOf3
  v3 := Tryz.zeroValue3
  t4 := Tryz.underlying4
  a4 := Tryz.isAgg4
  z4 := Tryz.sizeOf4
  v4 := Tryz.zeroValue4
  t5 := Tryz.underlying5
  a5 := Tryz.isAgg5
  z5 := Tryz.sizeOf5
  v5 := Tryz.zeroValue5
  t9 := Tryz.underlying9
  a9 := Tryz.isAgg9
  z9 := Tryz.sizeOf9
  v9 := Tryz.zeroValue9
  t46 := Tryz.underlying173
  a46 := Tryz.isAgg173
  z46 := Tryz.sizeOf173
  v46 := Tryz.zeroValue173
  t51 := Tryz.underlying206
  a51 := Tryz.isAgg206
  z51 := Tryz.sizeOf206
  v51 := Tryz.zeroValue206
  t53 := Tryz.underlying110
  a53 := Tryz.isAgg110
  z53 := Tryz.sizeOf110
  v53 := Tryz.zeroValue110 }
/-- bits.Len: "Len returns the minimum number of bits required to represent x; the result is 0 for x == 0.": IT RETURNS 'Lib.bitLen x'; the world is as it was. (A uint has 64 bits in the model.) ITS CALLEE bits.Len64 IS MET BY ITS OWN CONTRACT OFF THE SHELF (lay that first). (LAID: no walk: one application.) -/
theorem Tryz.bits_Len (x : Int) (w : World) (h0 : 0 ≤ x) (h1 : x ≤ 18446744073709551615) :
    Calls Tryz.prog 133 #[.int .u64 x] w fun e w' => e = .returned (.int .i64 (Lib.bitLen x.toNat)) ∧ w' = w := Any.bits_Len Tryz.lays125 x w h0 h1
def Tryz.lays137_ren : Go.Shelf.Ren := ⟨fun | 137 => 80 | 217 => 99 | 266 => 106 | n => n, fun | 9 => 9 | 5 => 5 | 3 => 3 | n => n, fun | n => n⟩
theorem Tryz.lays137 : Go.Proofs.Lays.n137 Tryz.prog Tryz.lays137_ren := {
  mixed := by kernel_rfl
  f137 := Tryz.func80.trans (congrArg some (by kernel_rfl))
  f217 := Tryz.func99.trans (congrArg some (by kernel_rfl))
  f266 := Tryz.func106.trans (congrArg some (by kernel_rfl))
  t3 := Tryz.underlying3
  a3 := Tryz.isAgg3
  z3 := Tryz.sizeOf3
  v3 := Tryz.zeroValue3
  t5 := Tryz.underlying5
  a5 := Tryz.isAgg5
  z5 := Tryz.sizeOf5
  v5 := Tryz.zeroValue5
  t9 := Tryz.underlying9
  a9 := Tryz.isAgg9
  z9 := Tryz.sizeOf9
  v9 := Tryz.zeroValue9 }
open Go.RowKit in
/-- strings.IndexByte: "IndexByte returns the index of the first instance of c in s, or -1 if c is not present in s.": IT RETURNS 'Lib.indexByte s c'; the world is as it was. (LAID: no walk: one application.) -/
theorem Tryz.strings_IndexByte (s : ByteArray) (c : Int) (w : World) :
    Calls Tryz.prog 80 #[.string s, .int .u8 c] w fun e w' => e = .returned (.int .i64 (Lib.indexByte s.data.toList c.toNat.toUInt8)) ∧ w' = w := Any.strings_IndexByte Tryz.lays137 s c w
def Tryz.lays215_ren : Go.Shelf.Ren := ⟨fun | 215 => 105 | n => n, fun | 3 => 3 | 4 => 4 | n => n, fun | n => n⟩
theorem Tryz.lays215 : Go.Proofs.Lays.n215 Tryz.prog Tryz.lays215_ren := {
  mixed := by kernel_rfl
  f215 := Tryz.func105.trans (congrArg some (by kernel_rfl))
  t3 := Tryz.underlying3
  a3 := Tryz.isAgg3
  z3 := Tryz.sizeOf3
  v3 := Tryz.zeroValue3
  t4 := Tryz.underlying4
  a4 := Tryz.isAgg4
  z4 := Tryz.sizeOf4
  v4 := Tryz.zeroValue4 }
open Go.RowKit in
/-- cmp.isNaN at int: 'x != x': false. (LAID: no walk: one application.) -/
theorem Tryz.cmp_isNaN_int (x : Int) (w : World) :
    Calls Tryz.prog 105 #[.int .i64 x] w fun e w' => e = .returned (.bool false) ∧ w' = w := Any.cmp_isNaN_int Tryz.lays215 x w
def Tryz.lays129_ren : Go.Shelf.Ren := ⟨fun | 129 => 147 | n => n, fun | 53 => 110 | 3 => 3 | 4 => 4 | 46 => 173 | 5 => 5 | 9 => 9 | n => n, fun | n => n⟩
theorem Tryz.lays129 : Go.Proofs.Lays.n129 Tryz.prog Tryz.lays129_ren := {
  mixed := by kernel_rfl
  f129 := Tryz.func147.trans (congrArg some (by kernel_rfl))
  t3 := Tryz.underlying3
  a3 := Tryz.isAgg3
  z3 := Tryz.sizeOf3
  v3 := Tryz.zeroValue3
  t4 := Tryz.underlying4
  a4 := Tryz.isAgg4
  z4 := Tryz.sizeOf4
  v4 := Tryz.zeroValue4
  t5 := Tryz.underlying5
  a5 := Tryz.isAgg5
  z5 := Tryz.sizeOf5
  v5 := Tryz.zeroValue5
  t9 := Tryz.underlying9
  a9 := Tryz.isAgg9
  z9 := Tryz.sizeOf9
  v9 := Tryz.zeroValue9
  t46 := Tryz.underlying173
  a46 := Tryz.isAgg173
  z46 := Tryz.sizeOf173
  v46 := Tryz.zeroValue173
  t53 := Tryz.underlying110
  a53 := Tryz.isAgg110
  z53 := Tryz.sizeOf110
  v53 := Tryz.zeroValue110 }
/-- bits.Len64: "Len64 returns the minimum number of bits required to represent x; the result is 0 for x == 0.": IT RETURNS 'Lib.bitLen x'; the world is as it was. ('h0', 'h1': x is a uint64.) (LAID: no walk: one application.) -/
theorem Tryz.bits_Len64 (x : Int) (w : World) (h0 : 0 ≤ x) (h1 : x ≤ 18446744073709551615) :
    Calls Tryz.prog 147 #[.int .u64 x] w fun e w' => e = .returned (.int .i64 (Lib.bitLen x.toNat)) ∧ w' = w := Any.bits_Len64 Tryz.lays129 x w h0 h1
def Tryz.laysM316_ren : Go.Shelf.Ren := ⟨fun | 316 => 166 | n => n, fun | 9 => 9 | 3 => 3 | 4 => 4 | 37 => 70 | 0 => 0 | 127 => 236 | 5 => 5 | n => n, fun | n => n⟩
theorem Tryz.laysM316 : Go.Proofs.LaysM.n316 Tryz.prog Tryz.laysM316_ren := {
  mixed := by kernel_rfl
  f316 := Tryz.func166.trans (congrArg some (by kernel_rfl))
  t0 := Tryz.underlying0
  a0 := Tryz.isAgg0
  z0 := Tryz.sizeOf0
  v0 := Tryz.zeroValue0
  t3 := Tryz.underlying3
  a3 := Tryz.isAgg3
  z3 := Tryz.sizeOf3
  v3 := Tryz.zeroValue3
  t4 := Tryz.underlying4
  a4 := Tryz.isAgg4
  z4 := Tryz.sizeOf4
  v4 := Tryz.zeroValue4
  t9 := Tryz.underlying9
  a9 := Tryz.isAgg9
  z9 := Tryz.sizeOf9
  v9 := Tryz.zeroValue9
  t37 := Tryz.underlying70
  a37 := Tryz.isAgg70
  z37 := Tryz.sizeOf70
  v37 := Tryz.zeroValue70
  t127 := Tryz.underlying236
  a127 := Tryz.isAgg236
  z127 := Tryz.sizeOf236
  v127 := Tryz.zeroValue236
  t5 := Tryz.underlying5
  a5 := Tryz.isAgg5
  z5 := Tryz.sizeOf5
  v5 := Tryz.zeroValue5
  i0 := by kernel_rfl
  i3 := by kernel_rfl
  i4 := by kernel_rfl
  i5 := by kernel_rfl
  i9 := by kernel_rfl
  i37 := by kernel_rfl
  i127 := by kernel_rfl }
open Go.RowKit in
/-- internal/stringslite.Clone (what strings.Clone calls): "Clone returns a fresh copy of s.": THE SAME BYTES. Of what was there nothing has turned (a new row is laid, and frozen, where s is not empty). (LAID: no walk: one application.) -/
theorem Tryz.stringslite_Clone (s : ByteArray) (w : World) (hlim : s.size ≤ 281474976710656) :
    Calls Tryz.prog 166 #[.string s] w fun e w' => e = .returned (.string s) ∧ Below w.heap.size w w' := Any.stringslite_Clone Tryz.laysM316 s w hlim
def Tryz.laysM279_ren : Go.Shelf.Ren := ⟨fun | 279 => 162 | 316 => 166 | n => n, fun | 9 => 9 | 168 => 228 | 75 => 220 | 210 => 233 | 3 => 3 | 4 => 4 | 37 => 70 | 0 => 0 | 127 => 236 | 80 => 135 | 5 => 5 | n => n, fun | 15 => 3 | n => n⟩
theorem Tryz.laysM279 : Go.Proofs.LaysM.n279 Tryz.prog Tryz.laysM279_ren := {
  mixed := by kernel_rfl
  f279 := Tryz.func162.trans (congrArg some (by kernel_rfl))
  f316 := Tryz.func166.trans (congrArg some (by kernel_rfl))
  t0 := Tryz.underlying0
  a0 := Tryz.isAgg0
  z0 := Tryz.sizeOf0
  v0 := Tryz.zeroValue0
  t3 := Tryz.underlying3
  a3 := Tryz.isAgg3
  z3 := Tryz.sizeOf3
  v3 := Tryz.zeroValue3
  t4 := Tryz.underlying4
  a4 := Tryz.isAgg4
  z4 := Tryz.sizeOf4
  v4 := Tryz.zeroValue4
  t9 := Tryz.underlying9
  a9 := Tryz.isAgg9
  z9 := Tryz.sizeOf9
  v9 := Tryz.zeroValue9
  t37 := Tryz.underlying70
  a37 := Tryz.isAgg70
  z37 := Tryz.sizeOf70
  v37 := Tryz.zeroValue70
  t75 := Tryz.underlying220
  a75 := Tryz.isAgg220
  z75 := Tryz.sizeOf220
  v75 := Tryz.zeroValue220
  t127 := Tryz.underlying236
  a127 := Tryz.isAgg236
  z127 := Tryz.sizeOf236
  v127 := Tryz.zeroValue236
  t168 := Tryz.underlying228
  a168 := Tryz.isAgg228
  z168 := Tryz.sizeOf228
  v168 := Tryz.zeroValue228
  t210 := Tryz.underlying233
  a210 := Tryz.isAgg233
  z210 := Tryz.sizeOf233
  v210 := Tryz.zeroValue233
  g15 := by kernel_rfl
  t5 := Tryz.underlying5
  a5 := Tryz.isAgg5
  z5 := Tryz.sizeOf5
  v5 := Tryz.zeroValue5
  t80 := Tryz.underlying135
  a80 := Tryz.isAgg135
  z80 := Tryz.sizeOf135
  v80 := Tryz.zeroValue135
  i0 := by kernel_rfl
  i3 := by kernel_rfl
  i4 := by kernel_rfl
  i5 := by kernel_rfl
  i9 := by kernel_rfl
  i37 := by kernel_rfl
  i75 := by kernel_rfl
  i80 := by kernel_rfl
  i127 := by kernel_rfl
  i168 := by kernel_rfl
  i210 := by kernel_rfl
  m15 := by kernel_rfl }
open Go.RowKit in
/-- strconv.syntaxError: '&NumError{fn, stringslite.Clone(str), ErrSyntax}': A POINTER TO A NEW BLOCK that holds fn, str's bytes, and what the variable ErrSyntax holds. Of what was there nothing has turned. (LAID: no walk: one application.) -/
theorem Tryz.strconv_syntaxError (fn s : ByteArray) (ev : Value) (w : World) (hlim : s.size ≤ 281474976710656) (hv : w.cell? ⟨3, 0, none⟩ = some ev) (hev : ev = .nilIface ∨ ∃ te pe, ev = .iface te pe) :
    Calls Tryz.prog 162 #[.string fn, .string s] w fun e w' => ∃ N, e = .returned (.pointer (some ⟨N, 0, none⟩)) ∧ w.heap.size ≤ N ∧ w'.heap[N]? = some (.cells #[.string fn, .string s, ev] 233 (0, 0)) ∧ Below w.heap.size w w' := Any.strconv_syntaxError Tryz.laysM279 fn s ev w hlim hv hev
def Tryz.laysC245_ren : Go.Shelf.Ren := ⟨fun | 245 => 159 | 279 => 162 | 280 => 163 | 281 => 164 | 282 => 165 | 316 => 166 | 171 => 168 | 205 => 167 | 243 => 169 | 246 => 170 | 283 => 171 | 284 => 172 | 285 => 173 | 286 => 174 | 129 => 147 | 317 => 175 | 318 => 176 | 319 => 177 | 320 => 178 | 337 => 179 | 338 => 180 | n => n, fun | 9 => 9 | 3 => 3 | 75 => 220 | 167 => 226 | 4 => 4 | 168 => 228 | 210 => 233 | 37 => 70 | 0 => 0 | 127 => 236 | 145 => 239 | 143 => 237 | 2 => 2 | 171 => 241 | 53 => 110 | 5 => 5 | 173 => 243 | 212 => 246 | 51 => 206 | 20 => 20 | 213 => 247 | 46 => 173 | 232 => 248 | 233 => 249 | 80 => 135 | n => n, fun | 15 => 3 | 16 => 4 | 17 => 5 | 18 => 6 | 19 => 7 | n => n⟩
theorem Tryz.laysC245 : Go.Proofs.LaysC.n245 Tryz.prog Tryz.laysC245_ren := {
  mixed := by kernel_rfl
  f129 := Tryz.func147.trans (congrArg some (by kernel_rfl))
  f171 := Tryz.func168.trans (congrArg some (by kernel_rfl))
  f205 := Tryz.func167.trans (congrArg some (by kernel_rfl))
  f243 := Tryz.func169.trans (congrArg some (by kernel_rfl))
  f245 := Tryz.func159.trans (congrArg some (by kernel_rfl))
  f246 := Tryz.func170.trans (congrArg some (by kernel_rfl))
  f279 := Tryz.func162.trans (congrArg some (by kernel_rfl))
  f280 := Tryz.func163.trans (congrArg some (by kernel_rfl))
  f281 := Tryz.func164.trans (congrArg some (by kernel_rfl))
  f282 := Tryz.func165.trans (congrArg some (by kernel_rfl))
  f283 := Tryz.func171.trans (congrArg some (by kernel_rfl))
  f284 := Tryz.func172.trans (congrArg some (by kernel_rfl))
  f285 := Tryz.func173.trans (congrArg some (by kernel_rfl))
  f286 := Tryz.func174.trans (congrArg some (by kernel_rfl))
  f316 := Tryz.func166.trans (congrArg some (by kernel_rfl))
  f317 := Tryz.func175.trans (congrArg some (by kernel_rfl))
  f318 := Tryz.func176.trans (congrArg some (by kernel_rfl))
  f319 := Tryz.func177.trans (congrArg some (by kernel_rfl))
  f320 := Tryz.func178.trans (congrArg some (by kernel_rfl))
  f337 := Tryz.func179.trans (congrArg some (by kernel_rfl))
  f338 := Tryz.func180.trans (congrArg some (by kernel_rfl))
  t0 := Tryz.underlying0
  a0 := Tryz.isAgg0
  z0 := Tryz.sizeOf0
  v0 := Tryz.zeroValue0
  t2 := Tryz.underlying2
  a2 := Tryz.isAgg2
  z2 := Tryz.sizeOf2
  v2 := Tryz.zeroValue2
  t3 := Tryz.underlying3
  a3 := Tryz.isAgg3
  z3 := Tryz.sizeOf3
  v3 := Tryz.zeroValue3
  t4 := Tryz.underlying4
  a4 := Tryz.isAgg4
  z4 := Tryz.sizeOf4
  v4 := Tryz.zeroValue4
  t5 := Tryz.underlying5
  a5 := Tryz.isAgg5
  z5 := Tryz.sizeOf5
  v5 := Tryz.zeroValue5
  t9 := Tryz.underlying9
  a9 := Tryz.isAgg9
  z9 := Tryz.sizeOf9
  v9 := Tryz.zeroValue9
  t20 := Tryz.underlying20
  a20 := Tryz.isAgg20
  z20 := Tryz.sizeOf20
  v20 := Tryz.zeroValue20
  t37 := Tryz.underlying70
  a37 := Tryz.isAgg70
  z37 := Tryz.sizeOf70
  v37 := Tryz.zeroValue70
  t46 := Tryz.underlying173
  a46 := Tryz.isAgg173
  z46 := Tryz.sizeOf173
  v46 := Tryz.zeroValue173
  t51 := Tryz.underlying206
  a51 := Tryz.isAgg206
  z51 := Tryz.sizeOf206
  v51 := Tryz.zeroValue206
  t53 := Tryz.underlying110
  a53 := Tryz.isAgg110
  z53 := Tryz.sizeOf110
  v53 := Tryz.zeroValue110
  t75 := Tryz.underlying220
  a75 := Tryz.isAgg220
  z75 := Tryz.sizeOf220
  v75 := Tryz.zeroValue220
  t127 := Tryz.underlying236
  a127 := Tryz.isAgg236
  z127 := Tryz.sizeOf236
  v127 := Tryz.zeroValue236
  t143 := Tryz.underlying237
  a143 := Tryz.isAgg237
  z143 := Tryz.sizeOf237
  v143 := Tryz.zeroValue237
  t145 := Tryz.underlying239
  a145 := Tryz.isAgg239
  z145 := Tryz.sizeOf239
  v145 := Tryz.zeroValue239
  t167 := Tryz.underlying226
  a167 := Tryz.isAgg226
  z167 := Tryz.sizeOf226
  v167 := Tryz.zeroValue226
  t168 := Tryz.underlying228
  a168 := Tryz.isAgg228
  z168 := Tryz.sizeOf228
  v168 := Tryz.zeroValue228
  t171 := Tryz.underlying241
  a171 := Tryz.isAgg241
  z171 := Tryz.sizeOf241
  v171 := Tryz.zeroValue241
  t173 := Tryz.underlying243
  a173 := Tryz.isAgg243
  z173 := Tryz.sizeOf243
  v173 := Tryz.zeroValue243
  t210 := Tryz.underlying233
  a210 := Tryz.isAgg233
  z210 := Tryz.sizeOf233
  v210 := Tryz.zeroValue233
  t212 := Tryz.underlying246
  a212 := Tryz.isAgg246
  z212 := Tryz.sizeOf246
  v212 := Tryz.zeroValue246
  t213 := Tryz.underlying247
  a213 := Tryz.isAgg247
  z213 := Tryz.sizeOf247
  t232 := Tryz.underlying248
  a232 := Tryz.isAgg248
  z232 := Tryz.sizeOf248
  v232 := Tryz.zeroValue248
  t233 := Tryz.underlying249
  a233 := Tryz.isAgg249
  z233 := Tryz.sizeOf249
  v233 := Tryz.zeroValue249
  g15 := by kernel_rfl
  g16 := by kernel_rfl
  g17 := by kernel_rfl
  g18 := by kernel_rfl
  g19 := by kernel_rfl
  t80 := Tryz.underlying135
  a80 := Tryz.isAgg135
  z80 := Tryz.sizeOf135
  v80 := Tryz.zeroValue135
  i0 := by kernel_rfl
  i2 := by kernel_rfl
  i3 := by kernel_rfl
  i4 := by kernel_rfl
  i5 := by kernel_rfl
  i9 := by kernel_rfl
  i20 := by kernel_rfl
  i37 := by kernel_rfl
  i46 := by kernel_rfl
  i51 := by kernel_rfl
  i53 := by kernel_rfl
  i75 := by kernel_rfl
  i80 := by kernel_rfl
  i127 := by kernel_rfl
  i143 := by kernel_rfl
  i145 := by kernel_rfl
  i167 := by kernel_rfl
  i168 := by kernel_rfl
  i171 := by kernel_rfl
  i173 := by kernel_rfl
  i210 := by kernel_rfl
  i212 := by kernel_rfl
  i232 := by kernel_rfl
  i233 := by kernel_rfl
  m15 := by kernel_rfl
  m16 := by kernel_rfl
  m17 := by kernel_rfl
  m18 := by kernel_rfl
  m19 := by kernel_rfl
  c0 := by kernel_rfl
  c2 := by kernel_rfl
  c3 := by kernel_rfl
  c4 := by kernel_rfl
  c5 := by kernel_rfl
  c9 := by kernel_rfl
  c20 := by kernel_rfl
  c37 := by kernel_rfl
  c46 := by kernel_rfl
  c51 := by kernel_rfl
  c53 := by kernel_rfl
  c75 := by kernel_rfl
  c80 := by kernel_rfl
  c127 := by kernel_rfl
  c143 := by kernel_rfl
  c145 := by kernel_rfl
  c167 := by kernel_rfl
  c168 := by kernel_rfl
  c171 := by kernel_rfl
  c173 := by kernel_rfl
  c210 := by kernel_rfl
  c212 := by kernel_rfl
  c213 := by kernel_rfl
  c232 := by kernel_rfl
  c233 := by kernel_rfl }
open Go.RowKit in
/-- strconv.toError, at the inner package's ErrSyntax: 'syntaxError(fn, s)' as an error: A *NumError IN A NEW BLOCK. (LAID: no walk: one application.) -/
theorem Tryz.strconv_toError_syntax (fn s : ByteArray) (base bits : Int) (ev : Value) (w : World) (hlim : s.size ≤ 281474976710656) (hv : w.cell? ⟨3, 0, none⟩ = some ev) (hev : ev = .nilIface ∨ ∃ te pe, ev = .iface te pe) :
    Calls Tryz.prog 159 #[.string fn, .string s, .int .i64 base, .int .i64 bits, .iface 226 (.int .i64 2)] w fun e w' => ∃ N, e = .returned (.iface 228 (.pointer (some ⟨N, 0, none⟩))) ∧ w.heap.size ≤ N ∧ w'.heap[N]? = some (.cells #[.string fn, .string s, ev] 233 (0, 0)) ∧ Below w.heap.size w w' := Any.strconv_toError_syntax Tryz.laysC245 fn s base bits ev w hlim hv hev
def Tryz.lays217_ren : Go.Shelf.Ren := ⟨fun | 217 => 99 | 266 => 106 | n => n, fun | 9 => 9 | 5 => 5 | 3 => 3 | n => n, fun | n => n⟩
theorem Tryz.lays217 : Go.Proofs.Lays.n217 Tryz.prog Tryz.lays217_ren := {
  mixed := by kernel_rfl
  f217 := Tryz.func99.trans (congrArg some (by kernel_rfl))
  f266 := Tryz.func106.trans (congrArg some (by kernel_rfl))
  t3 := Tryz.underlying3
  a3 := Tryz.isAgg3
  z3 := Tryz.sizeOf3
  v3 := Tryz.zeroValue3
  t5 := Tryz.underlying5
  a5 := Tryz.isAgg5
  z5 := Tryz.sizeOf5
  v5 := Tryz.zeroValue5
  t9 := Tryz.underlying9
  a9 := Tryz.isAgg9
  z9 := Tryz.sizeOf9
  v9 := Tryz.zeroValue9 }
open Go.RowKit Go.Lib in
/-- internal/stringslite.IndexByte (what strings.IndexByte calls): IT RETURNS 'Lib.indexByte s c'; the world is as it was. (LAID: no walk: one application.) -/
theorem Tryz.stringslite_IndexByte (s : ByteArray) (c : Int) (w : World) :
    Calls Tryz.prog 99 #[.string s, .int .u8 c] w fun e w' => e = .returned (.int .i64 (Lib.indexByte s.data.toList c.toNat.toUInt8)) ∧ w' = w := Any.stringslite_IndexByte Tryz.lays217 s c w
def Tryz.lays224_ren : Go.Shelf.Ren := ⟨fun | 224 => 149 | n => n, fun | 3 => 3 | n => n, fun | n => n⟩
theorem Tryz.lays224 : Go.Proofs.Lays.n224 Tryz.prog Tryz.lays224_ren := {
  mixed := by kernel_rfl
  f224 := Tryz.func149.trans (congrArg some (by kernel_rfl))
  t3 := Tryz.underlying3
  a3 := Tryz.isAgg3
  z3 := Tryz.sizeOf3
  v3 := Tryz.zeroValue3 }
open Go.RowKit Go.Lib in
/-- internal/bytealg.Cutover: "Cutover reports the number of failures of IndexByte we should tolerate before switching over to Index. n is the number of bytes processed so far.": on amd64: (n + 16) / 8. (LAID: no walk: one application.) -/
theorem Tryz.bytealg_Cutover (n : Int) (h0 : 0 ≤ n) (h1 : n < 4611686018427387904) (w : World) :
    Calls Tryz.prog 149 #[.int .i64 n] w fun e w' => e = .returned (.int .i64 ((n + 16) / 8)) ∧ w' = w := Any.bytealg_Cutover Tryz.lays224 n h0 h1 w
def Tryz.lays152_ren : Go.Shelf.Ren := ⟨fun | 152 => 137 | 137 => 80 | 119 => 75 | 224 => 149 | 225 => 150 | 217 => 99 | 266 => 106 | n => n, fun | 9 => 9 | 21 => 21 | 3 => 3 | 4 => 4 | 5 => 5 | 0 => 0 | 46 => 173 | n => n, fun | n => n⟩
theorem Tryz.lays152 : Go.Proofs.Lays.n152 Tryz.prog Tryz.lays152_ren := {
  mixed := by kernel_rfl
  f119 := Tryz.func75.trans (congrArg some (by kernel_rfl))
  f137 := Tryz.func80.trans (congrArg some (by kernel_rfl))
  f152 := Tryz.func137.trans (congrArg some (by kernel_rfl))
  f217 := Tryz.func99.trans (congrArg some (by kernel_rfl))
  f224 := Tryz.func149.trans (congrArg some (by kernel_rfl))
  f225 := Tryz.func150.trans (congrArg some (by kernel_rfl))
  f266 := Tryz.func106.trans (congrArg some (by kernel_rfl))
  t0 := Tryz.underlying0
  a0 := Tryz.isAgg0
  z0 := Tryz.sizeOf0
  v0 := Tryz.zeroValue0
  t3 := Tryz.underlying3
  a3 := Tryz.isAgg3
  z3 := Tryz.sizeOf3
  v3 := Tryz.zeroValue3
  t4 := Tryz.underlying4
  a4 := Tryz.isAgg4
  z4 := Tryz.sizeOf4
  v4 := Tryz.zeroValue4
  t5 := Tryz.underlying5
  a5 := Tryz.isAgg5
  z5 := Tryz.sizeOf5
  v5 := Tryz.zeroValue5
  t9 := Tryz.underlying9
  a9 := Tryz.isAgg9
  z9 := Tryz.sizeOf9
  v9 := Tryz.zeroValue9
  t21 := Tryz.underlying21
  a21 := Tryz.isAgg21
  z21 := Tryz.sizeOf21
  v21 := Tryz.zeroValue21
  t46 := Tryz.underlying173
  a46 := Tryz.isAgg173
  z46 := Tryz.sizeOf173
  v46 := Tryz.zeroValue173 }
open Go.RowKit Go.Lib in
theorem Tryz.strings_IndexRune_ascii (s : ByteArray) (r : Int) (w : World) (h0 : 0 ≤ r) (h1 : r < 128) :
    Calls Tryz.prog 137 #[.string s, .int .i32 r] w fun e w' => e = .returned (.int .i64 (Lib.indexByte s.data.toList r.toNat.toUInt8)) ∧ w' = w := Any.strings_IndexRune_ascii Tryz.lays152 s r w h0 h1
def Tryz.lays151_ren : Go.Shelf.Ren := ⟨fun | 151 => 130 | 152 => 137 | 137 => 80 | 119 => 75 | 224 => 149 | 225 => 150 | 217 => 99 | 266 => 106 | n => n, fun | 9 => 9 | 21 => 21 | 4 => 4 | 3 => 3 | 5 => 5 | 0 => 0 | 46 => 173 | n => n, fun | n => n⟩
theorem Tryz.lays151 : Go.Proofs.Lays.n151 Tryz.prog Tryz.lays151_ren := {
  mixed := by kernel_rfl
  f119 := Tryz.func75.trans (congrArg some (by kernel_rfl))
  f137 := Tryz.func80.trans (congrArg some (by kernel_rfl))
  f151 := Tryz.func130.trans (congrArg some (by kernel_rfl))
  f152 := Tryz.func137.trans (congrArg some (by kernel_rfl))
  f217 := Tryz.func99.trans (congrArg some (by kernel_rfl))
  f224 := Tryz.func149.trans (congrArg some (by kernel_rfl))
  f225 := Tryz.func150.trans (congrArg some (by kernel_rfl))
  f266 := Tryz.func106.trans (congrArg some (by kernel_rfl))
  t0 := Tryz.underlying0
  a0 := Tryz.isAgg0
  z0 := Tryz.sizeOf0
  v0 := Tryz.zeroValue0
  t3 := Tryz.underlying3
  a3 := Tryz.isAgg3
  z3 := Tryz.sizeOf3
  v3 := Tryz.zeroValue3
  t4 := Tryz.underlying4
  a4 := Tryz.isAgg4
  z4 := Tryz.sizeOf4
  v4 := Tryz.zeroValue4
  t5 := Tryz.underlying5
  a5 := Tryz.isAgg5
  z5 := Tryz.sizeOf5
  v5 := Tryz.zeroValue5
  t9 := Tryz.underlying9
  a9 := Tryz.isAgg9
  z9 := Tryz.sizeOf9
  v9 := Tryz.zeroValue9
  t21 := Tryz.underlying21
  a21 := Tryz.isAgg21
  z21 := Tryz.sizeOf21
  v21 := Tryz.zeroValue21
  t46 := Tryz.underlying173
  a46 := Tryz.isAgg173
  z46 := Tryz.sizeOf173
  v46 := Tryz.zeroValue173 }
open Go.RowKit Go.Lib in
theorem Tryz.strings_ContainsRune_ascii (s : ByteArray) (r : Int) (w : World) (h0 : 0 ≤ r) (h1 : r < 128) :
    Calls Tryz.prog 130 #[.string s, .int .i32 r] w fun e w' => e = .returned (.bool (decide (0 ≤ Lib.indexByte s.data.toList r.toNat.toUInt8))) ∧ w' = w := Any.strings_ContainsRune_ascii Tryz.lays151 s r w h0 h1
def Tryz.lays260_ren : Go.Shelf.Ren := ⟨fun | 260 => 136 | n => n, fun | 9 => 9 | 21 => 21 | 3 => 3 | 4 => 4 | 5 => 5 | 119 => 208 | 0 => 0 | 46 => 173 | 139 => 211 | 138 => 210 | n => n, fun | 3 => 1 | 4 => 2 | n => n⟩
theorem Tryz.lays260 : Go.Proofs.Lays.n260 Tryz.prog Tryz.lays260_ren := {
  mixed := by kernel_rfl
  f260 := Tryz.func136.trans (congrArg some (by kernel_rfl))
  t0 := Tryz.underlying0
  a0 := Tryz.isAgg0
  z0 := Tryz.sizeOf0
  v0 := Tryz.zeroValue0
  t3 := Tryz.underlying3
  a3 := Tryz.isAgg3
  z3 := Tryz.sizeOf3
  v3 := Tryz.zeroValue3
  t4 := Tryz.underlying4
  a4 := Tryz.isAgg4
  z4 := Tryz.sizeOf4
  v4 := Tryz.zeroValue4
  t5 := Tryz.underlying5
  a5 := Tryz.isAgg5
  z5 := Tryz.sizeOf5
  v5 := Tryz.zeroValue5
  t9 := Tryz.underlying9
  a9 := Tryz.isAgg9
  z9 := Tryz.sizeOf9
  v9 := Tryz.zeroValue9
  t21 := Tryz.underlying21
  a21 := Tryz.isAgg21
  z21 := Tryz.sizeOf21
  v21 := Tryz.zeroValue21
  t46 := Tryz.underlying173
  a46 := Tryz.isAgg173
  z46 := Tryz.sizeOf173
  v46 := Tryz.zeroValue173
  t119 := Tryz.underlying208
  a119 := Tryz.isAgg208
  z119 := Tryz.sizeOf208
  t138 := Tryz.underlying210
  a138 := Tryz.isAgg210
  z138 := Tryz.sizeOf210
  v138 := Tryz.zeroValue210
  t139 := Tryz.underlying211
  a139 := Tryz.isAgg211
  z139 := Tryz.sizeOf211
  v139 := Tryz.zeroValue211
  g3 := by kernel_rfl
  g4 := by kernel_rfl }
open Go.RowKit Go.Lib in
theorem Tryz.utf8_decodeRuneInStringSlow (s : ByteArray) (w : World) (hT : Lib.Utf8Tabs 1 2 w) :
    Calls Tryz.prog 136 #[.string s] w fun e w' => e = .returned (.tuple #[.int .i32 (Lib.decodeGo s).1, .int .i64 (Lib.decodeGo s).2]) ∧ Below w.heap.size w w' := Any.utf8_decodeRuneInStringSlow Tryz.lays260 s w hT
def Tryz.lays197_ren : Go.Shelf.Ren := ⟨fun | 197 => 129 | 260 => 136 | n => n, fun | 9 => 9 | 21 => 21 | 3 => 3 | 4 => 4 | 5 => 5 | 105 => 192 | 119 => 208 | 0 => 0 | 46 => 173 | 139 => 211 | 138 => 210 | n => n, fun | 3 => 1 | 4 => 2 | n => n⟩
theorem Tryz.lays197 : Go.Proofs.Lays.n197 Tryz.prog Tryz.lays197_ren := {
  mixed := by kernel_rfl
  f197 := Tryz.func129.trans (congrArg some (by kernel_rfl))
  f260 := Tryz.func136.trans (congrArg some (by kernel_rfl))
  t0 := Tryz.underlying0
  a0 := Tryz.isAgg0
  z0 := Tryz.sizeOf0
  v0 := Tryz.zeroValue0
  t3 := Tryz.underlying3
  a3 := Tryz.isAgg3
  z3 := Tryz.sizeOf3
  v3 := Tryz.zeroValue3
  t4 := Tryz.underlying4
  a4 := Tryz.isAgg4
  z4 := Tryz.sizeOf4
  v4 := Tryz.zeroValue4
  t5 := Tryz.underlying5
  a5 := Tryz.isAgg5
  z5 := Tryz.sizeOf5
  v5 := Tryz.zeroValue5
  t9 := Tryz.underlying9
  a9 := Tryz.isAgg9
  z9 := Tryz.sizeOf9
  v9 := Tryz.zeroValue9
  t21 := Tryz.underlying21
  a21 := Tryz.isAgg21
  z21 := Tryz.sizeOf21
  v21 := Tryz.zeroValue21
  t46 := Tryz.underlying173
  a46 := Tryz.isAgg173
  z46 := Tryz.sizeOf173
  v46 := Tryz.zeroValue173
  t105 := Tryz.underlying192
  a105 := Tryz.isAgg192
  z105 := Tryz.sizeOf192
  v105 := Tryz.zeroValue192
  t119 := Tryz.underlying208
  a119 := Tryz.isAgg208
  z119 := Tryz.sizeOf208
  t138 := Tryz.underlying210
  a138 := Tryz.isAgg210
  z138 := Tryz.sizeOf210
  v138 := Tryz.zeroValue210
  t139 := Tryz.underlying211
  a139 := Tryz.isAgg211
  z139 := Tryz.sizeOf211
  v139 := Tryz.zeroValue211
  g3 := by kernel_rfl
  g4 := by kernel_rfl }
open Go.RowKit Go.Lib in
/-- **unicode/utf8.DecodeRuneInString AT EVERY STRING.** (LAID: no walk: one application.) -/
theorem Tryz.utf8_DecodeRuneInString (s : ByteArray) (w : World) (hT : Lib.Utf8Tabs 1 2 w) :
    Calls Tryz.prog 129 #[.string s] w fun e w' => e = .returned (.tuple #[.int .i32 (Lib.decodeGo s).1, .int .i64 (Lib.decodeGo s).2]) ∧ Below w.heap.size w w' := Any.utf8_DecodeRuneInString Tryz.lays197 s w hT
end Go.Proofs

namespace Go.Proofs.YtnclmcngdcncdaaGreatDoor
namespace Pr
open Go.RowKit
open Rf (Kept)

/-- A set as memory: its ranges lie in a row from block B on. -/
def SetV (w : World) (B : Nat) (rs : List (Nat × Nat)) (o : Bool) (v : Value) : Prop :=
  ∃ vr rs', v = .agg #[vr, .bool o] ∧ w.ownsRow B 154 2 vr rs'.length (rc rs') ∧ SetOk rs' rs

theorem own_low {w : World} {b b' e size n : Nat} {v : Value} {xs : List Value} (h : w.ownsRow b e size v n xs) (hb : b' ≤ b) : w.ownsRow b' e size v n xs := by
  obtain ⟨h1, h2⟩ := h
  refine ⟨h1, ?_⟩
  rcases h2 with h2 | ⟨g, cap, cur, rfl, h3, h4, h5⟩
  · exact .inl h2
  · exact .inr ⟨g, cap, cur, rfl, by omega, h4, h5⟩

set_option maxRecDepth 100000 in
set_option maxHeartbeats 1000000 in
theorem of_any (w : World) (rs : List (Nat × Nat)) (v : Value) (h : w.ownsRow 0 154 2 v rs.length (rc rs)) (hn : rs.length ≤ 100000) (hle : ∀ r ∈ rs, r.1 ≤ r.2) (hbd : ∀ r ∈ rs, r.2 ≤ 1114111) :
    Calls Tryz.prog 120 #[v] w fun e w' => ∃ vs, e = .returned vs ∧ SetV w' w.heap.size rs false vs ∧ Below w.heap.size w w' := by
  have ho := h.alloc (.cells #[.slice none 0 0, .bool false] 106)
  have hN := ordered_any _ rs v ho hn hle hbd
  go_enter Tryz.func120, Tryz.ntmps120
  go_wp2_with (go_at_call 118; refine hN.mono ?_; rintro e w1 ⟨v1, rs1, rfl, ho1, hb1, hok⟩; have hbk : w1.heap[w.heap.size]? = some (.cells #[.slice none 0 0, .bool false] 106 (0, 0)) := (hb1.block w.heap.size (by simp)).trans (heap_alloc_new w _); obtain ⟨va, vc, hve⟩ := Rf.own_len ho1; subst hve; have f0 := Rf.free_blk hbk; have g0 : w1.cell? ⟨w.heap.size, 0, none⟩ = some (.slice none 0 0) := Rf.cell_blk hbk 0 _ rfl; have g1 : w1.cell? ⟨w.heap.size, 1, none⟩ = some (.bool false) := Rf.cell_blk hbk 1 _ rfl)
  have s0 : (w1.setCell ⟨w.heap.size, 0, none⟩ (.slice va rs1.length vc)).cell? ⟨w.heap.size, 0, none⟩ = some (.slice va rs1.length vc) := Rf.cell_blk (Rf.blk_set hbk _ _) 0 _ rfl
  have s1 : ((w1.setCell ⟨w.heap.size, 0, none⟩ (.slice va rs1.length vc)).setCell ⟨w.heap.size, 1, none⟩ (.bool false)).cell? ⟨w.heap.size, 1, none⟩ = some (.bool false) := Rf.cell_blk (Rf.blk_set (Rf.blk_set hbk _ _) _ _) 1 _ rfl
  refine bodyPost_ret (by simp [results, Tryz.results120, go_sem, s0, s1]; try rfl) rfl ?_
  have hlt : w.heap.size < w1.heap.size := by have := hb1.size; simp at this; omega
  have hbw : Below w.heap.size w w1 := ((Below.refl _ w).alloc (Nat.le_refl _) _).trans (hb1.mono (by simp))
  refine ⟨_, rfl, ⟨_, rs1, rfl, ?_, hok⟩, (hbw.setCell (Nat.le_refl _) _).setCell (Nat.le_refl _) _⟩
  have hne : ∀ k, (Value.slice va rs1.length vc).ownBlock = some k → k ≠ w.heap.size := fun k e e2 => by have := (ho1.lt k e).1; simp at this; omega
  refine own_same_at (own_low ho1 (by simp)) (fun k e => ?_)
  rw [Rf.blk_ne _ (hne k e), Rf.blk_ne _ (hne k e)]

set_option maxRecDepth 100000 in
set_option maxHeartbeats 1000000 in
theorem except_any (w : World) (rs : List (Nat × Nat)) (v : Value) (h : w.ownsRow 0 154 2 v rs.length (rc rs)) (hn : rs.length ≤ 100000) (hle : ∀ r ∈ rs, r.1 ≤ r.2) (hbd : ∀ r ∈ rs, r.2 ≤ 1114111) :
    Calls Tryz.prog 113 #[v] w fun e w' => ∃ vs, e = .returned vs ∧ SetV w' w.heap.size rs true vs ∧ Below w.heap.size w w' := by
  have ho := h.alloc (.cells #[.slice none 0 0, .bool false] 106)
  have hN := ordered_any _ rs v ho hn hle hbd
  go_enter Tryz.func113, Tryz.ntmps113
  go_wp2_with (go_at_call 118; refine hN.mono ?_; rintro e w1 ⟨v1, rs1, rfl, ho1, hb1, hok⟩; have hbk : w1.heap[w.heap.size]? = some (.cells #[.slice none 0 0, .bool false] 106 (0, 0)) := (hb1.block w.heap.size (by simp)).trans (heap_alloc_new w _); obtain ⟨va, vc, hve⟩ := Rf.own_len ho1; subst hve; have f0 := Rf.free_blk hbk; have g0 : w1.cell? ⟨w.heap.size, 0, none⟩ = some (.slice none 0 0) := Rf.cell_blk hbk 0 _ rfl; have g1 : w1.cell? ⟨w.heap.size, 1, none⟩ = some (.bool false) := Rf.cell_blk hbk 1 _ rfl)
  have s0 : (w1.setCell ⟨w.heap.size, 0, none⟩ (.slice va rs1.length vc)).cell? ⟨w.heap.size, 0, none⟩ = some (.slice va rs1.length vc) := Rf.cell_blk (Rf.blk_set hbk _ _) 0 _ rfl
  have s1 : ((w1.setCell ⟨w.heap.size, 0, none⟩ (.slice va rs1.length vc)).setCell ⟨w.heap.size, 1, none⟩ (.bool true)).cell? ⟨w.heap.size, 1, none⟩ = some (.bool true) := Rf.cell_blk (Rf.blk_set (Rf.blk_set hbk _ _) _ _) 1 _ rfl
  refine bodyPost_ret (by simp [results, Tryz.results113, go_sem, s0, s1]; try rfl) rfl ?_
  have hlt : w.heap.size < w1.heap.size := by have := hb1.size; simp at this; omega
  have hbw : Below w.heap.size w w1 := ((Below.refl _ w).alloc (Nat.le_refl _) _).trans (hb1.mono (by simp))
  refine ⟨_, rfl, ⟨_, rs1, rfl, ?_, hok⟩, (hbw.setCell (Nat.le_refl _) _).setCell (Nat.le_refl _) _⟩
  have hne : ∀ k, (Value.slice va rs1.length vc).ownBlock = some k → k ≠ w.heap.size := fun k e e2 => by have := (ho1.lt k e).1; simp at this; omega
  refine own_same_at (own_low ho1 (by simp)) (fun k e => ?_)
  rw [Rf.blk_ne _ (hne k e), Rf.blk_ne _ (hne k e)]

set_option maxRecDepth 100000 in
set_option maxHeartbeats 1000000 in
theorem one_any (w : World) (x : Int) : Calls Tryz.prog 121 #[.int .i32 x] w fun e w' => e = .returned (.agg #[.int .i32 x, .int .i32 x]) ∧ Below w.heap.size w w' := by
  go_enter Tryz.func121, Tryz.ntmps121
  go_wp2
  go_returns
  exact ⟨rfl, (Below.refl _ w).alloc (Nat.le_refl _) _⟩

set_option maxRecDepth 100000 in
set_option maxHeartbeats 1000000 in
theorem comp_any (w : World) (a c : Int) (r : Int) : Calls Tryz.prog 74 #[.agg #[.int .i32 a, .int .i32 c], .int .i32 r] w fun e w' => e = .returned (.int .i64 (if c < r then -1 else if r < a then 1 else 0)) ∧ Below w.heap.size w w' := by
  by_cases h1 : c < r
  · rw [if_pos h1]
    go_enter Tryz.func74, Tryz.ntmps74
    go_wp2
    go_ret
    exact ⟨rfl, (Below.refl _ w).alloc (Nat.le_refl _) _⟩
  · rw [if_neg h1]
    by_cases h2 : r < a
    · rw [if_pos h2]
      go_enter Tryz.func74, Tryz.ntmps74
      go_wp2
      go_ret
      exact ⟨rfl, (Below.refl _ w).alloc (Nat.le_refl _) _⟩
    · rw [if_neg h2]
      go_enter Tryz.func74, Tryz.ntmps74
      go_wp2
      go_ret
      exact ⟨rfl, (Below.refl _ w).alloc (Nat.le_refl _) _⟩

end Pr
end Go.Proofs.YtnclmcngdcncdaaGreatDoor

namespace Go.Proofs.YtnclmcngdcncdaaGreatDoor
namespace Pr
open Go.RowKit
open Rf (Kept)

set_option maxRecDepth 100000 in
set_option maxHeartbeats 2000000 in
theorem search_any (w : World) (rs : List (Nat × Nat)) (v : Value) (h : w.ownsRow 0 154 2 v rs.length (rc rs)) (hn : rs.length ≤ 2000000) (hS : G.Sep rs) (r : Int) :
    Calls Tryz.prog 73 #[v, .int .i32 r, .func (.func 74) #[] #[]] w fun e w' => ∃ i : Int, e = .returned (.tuple #[.int .i64 i, .bool (rs.any (G.within r))]) ∧ Below w.heap.size w w' := by
  obtain ⟨va, vc, hve⟩ := Rf.own_len h
  subst hve
  go_enter Tryz.func73, Tryz.ntmps73
  go_wp2
  go_loopw [9, 10] (fun vi vj wr => ∃ i j : Nat, vi = .int .i64 i ∧ vj = .int .i64 j ∧ i ≤ j ∧ j ≤ rs.length ∧ (∀ k a, k < i → rs[k]? = some a → (a.2 : Int) < r) ∧ (∀ k a, j ≤ k → rs[k]? = some a → r ≤ (a.2 : Int)) ∧ Below w.heap.size w wr)
    (fun vi vj _ => (intOf vj).toNat - (intOf vi).toNat)
  case atStart =>
    refine ⟨0, rs.length, rfl, rfl, Nat.zero_le _, Nat.le_refl _, fun k a hk => by omega, ?_, Below.refl _ _⟩
    intro k a hk hx
    rw [List.getElem?_eq_none hk] at hx
    cases hx
  case round =>
    obtain ⟨i, j, rfl, rfl, hij, hjn, hlo, hhi, hbw⟩ := hrel
    have ho := own_same_at h (fun k e => hbw.block k (h.lt k e).2)
    have HL : Hid _ := And.intro hlo (And.intro hhi hbw)
    clear hlo hhi
    by_cases hlt : i < j
    · have hd0 : i ≤ (i + j) / 2 ∧ (i + j) / 2 < j := by omega
      have hx : rs[(i + j) / 2]? = some (rs[(i + j) / 2]'(by omega)) := List.getElem?_eq_getElem _
      generalize rs[(i + j) / 2]'(by omega) = x at hx
      obtain ⟨g, cap, hv, _, _⟩ := ho.form (by omega)
      simp only [Value.slice.injEq] at hv
      obtain ⟨rfl, _, rfl⟩ := hv
      have cs0 : wr.cell? ⟨g, (i + j) / 2 * 2, none⟩ = some (.int .i32 (x.1 : Int)) := own_cell' ho ((i + j) / 2 * 2 + 0) ((rc_get rs _ 0 x hx (by omega)).trans rfl)
      have cs1 : wr.cell? ⟨g, (i + j) / 2 * 2 + 1, none⟩ = some (.int .i32 (x.2 : Int)) := own_cell' ho ((i + j) / 2 * 2 + 1) ((rc_get rs _ 1 x hx (by omega)).trans rfl)
      have hC := comp_any wr (x.1 : Int) (x.2 : Int) r
      by_cases hc : (x.2 : Int) < r
      · rw [if_pos hc] at hC
        have HG : Hid (∀ k a, k < (i + j) / 2 + 1 → rs[k]? = some a → (a.2 : Int) < r) := by
          intro k a hk ha
          have := G.sep_mono hS (show k ≤ (i + j) / 2 by omega) ha hx
          omega
        clear hx
        go_wp2_with (go_at_call 74; refine hC.mono ?_; rintro e w2 ⟨rfl, hb2⟩)
        refine ⟨⟨(i + j) / 2 + 1, j, by first | go_num | (congr 1; omega), rfl, by omega, hjn, HG.out, HL.out.2.1, HL.out.2.2.trans (hb2.mono (by have := hbw.size; omega))⟩, by simp [intOf]; omega⟩
      · have hC2 : Calls Tryz.prog 74 #[.agg #[.int .i32 (x.1 : Int), .int .i32 (x.2 : Int)], .int .i32 r] wr fun e w' => ∃ y : Int, e = .returned (.int .i64 y) ∧ ¬ y < 0 ∧ Below wr.heap.size wr w' := by
          refine hC.mono ?_
          rintro e w' ⟨rfl, hb⟩
          refine ⟨_, rfl, ?_, hb⟩
          rw [if_neg hc]
          split <;> omega
        clear hC
        have HG : Hid (∀ k a, (i + j) / 2 ≤ k → rs[k]? = some a → r ≤ (a.2 : Int)) := by
          intro k a hk ha
          have := G.sep_mono hS hk hx ha
          omega
        clear hx
        go_wp2_with (go_at_call 74; refine hC2.mono ?_; rintro e w2 ⟨y, rfl, hy, hb2⟩)
        refine ⟨⟨i, (i + j) / 2, rfl, by first | go_num | (congr 1; omega), by omega, by omega, HL.out.1, HG.out, HL.out.2.2.trans (hb2.mono (by have := hbw.size; omega))⟩, by simp [intOf]; omega⟩
    · have e : i = j := by omega
      subst e
      have hany := G.sep_any hS r i HL.out.1 (fun a ha => HL.out.2.1 i a (Nat.le_refl _) ha)
      by_cases hin : i < rs.length
      · have hx : rs[i]? = some (rs[i]'hin) := List.getElem?_eq_getElem _
        generalize rs[i]'hin = x at hx
        have hxl := HL.out.2.1 i x (Nat.le_refl _) hx
        rw [hx] at hany
        simp only at hany
        obtain ⟨g, cap, hv, _, _⟩ := ho.form (by omega)
        simp only [Value.slice.injEq] at hv
        obtain ⟨rfl, _, rfl⟩ := hv
        have cs0 : wr.cell? ⟨g, i * 2, none⟩ = some (.int .i32 (x.1 : Int)) := own_cell' ho (i * 2 + 0) ((rc_get rs _ 0 x hx (by omega)).trans rfl)
        have cs1 : wr.cell? ⟨g, i * 2 + 1, none⟩ = some (.int .i32 (x.2 : Int)) := own_cell' ho (i * 2 + 1) ((rc_get rs _ 1 x hx (by omega)).trans rfl)
        have hC := comp_any wr (x.1 : Int) (x.2 : Int) r
        rw [if_neg (by omega)] at hC
        by_cases hc : r < (x.1 : Int)
        · rw [if_pos hc] at hC
          rw [decide_eq_false (by omega)] at hany
          have HA : Hid _ := hany
          clear hany hx hxl
          go_wp2_with (go_at_call 74; refine hC.mono ?_; rintro e w2 ⟨rfl, hb2⟩)
          go_ret2
          exact ⟨_, by rw [HA.out]; rfl, HL.out.2.2.trans (hb2.mono (by have := hbw.size; omega))⟩
        · rw [if_neg hc] at hC
          rw [decide_eq_true (by omega)] at hany
          have HA : Hid _ := hany
          clear hany hx hxl
          go_wp2_with (go_at_call 74; refine hC.mono ?_; rintro e w2 ⟨rfl, hb2⟩)
          go_ret2
          exact ⟨_, by rw [HA.out]; rfl, HL.out.2.2.trans (hb2.mono (by have := hbw.size; omega))⟩
      · rw [List.getElem?_eq_none (by omega)] at hany
        simp only at hany
        have HA : Hid _ := hany
        clear hany
        have hin' : ¬ (i : Int) < (rs.length : Int) := by omega
        go_wp2
        go_ret2
        exact ⟨⟨_, by rw [HA.out]; rfl⟩, HL.out.2.2⟩

/-- Ranges that lie apart and below a bound are few. -/
theorem sep_len {M : Nat} : ∀ {l : List (Nat × Nat)}, l.Pairwise (fun a b => a.2 < b.1) → (∀ a ∈ l, a.1 ≤ a.2) → (∀ a ∈ l, a.2 ≤ M) → ∀ m, (∀ a ∈ l, m ≤ a.1) → l.length ≤ M + 1 - m
  | [], _, _, _, m, _ => Nat.zero_le _
  | a :: l, h1, h2, h3, m, h4 => by
    have hp := List.pairwise_cons.1 h1
    have ih := sep_len hp.2 (fun b hb => h2 b (by simp [hb])) (fun b hb => h3 b (by simp [hb])) (a.2 + 1) (fun b hb => hp.1 b hb)
    have e1 := h2 a (by simp)
    have e2 := h3 a (by simp)
    have e3 := h4 a (by simp)
    simp only [List.length_cons]
    omega

theorem valid_rune (r : Int) : Lib.validRune r = G.runeB r := by
  unfold Lib.validRune G.runeB
  rw [Bool.eq_iff_iff]
  simp
  omega

/-- Is a number in a set? -/
def hasB (rs : List (Nat × Nat)) (o : Bool) (r : Int) : Bool := (rs.any (G.within r) && G.runeB r) != o
theorem hasB_in (x : G.PNode) (r : Int) : hasB x.ranges x.other r = G.inV x r := by
  unfold hasB G.inV
  cases x.ranges.any (G.within r) <;> cases G.runeB r <;> cases x.other <;> rfl

set_option maxRecDepth 100000 in
set_option maxHeartbeats 2000000 in
theorem has_any (w : World) (rs : List (Nat × Nat)) (o : Bool) (v : Value) (hv : SetV w 0 rs o v) (r : Int) :
    Calls Tryz.prog 49 #[v, .int .i32 r] w fun e w' => e = .returned (.bool (hasB rs o r)) ∧ Below w.heap.size w w' := by
  obtain ⟨vr, rs', rfl, ho, hok⟩ := hv
  obtain ⟨va, vc, hve⟩ := Rf.own_len ho
  subst hve
  have hS := search_any (w.alloc (.cells #[.slice va rs'.length vc, .bool o] 106)) rs' _ (ho.alloc _) (by have := sep_len hok.sep.1 hok.sep.2 hok.bd 0 (fun _ _ => Nat.zero_le _); omega) hok.sep r
  rw [hok.eqv r] at hS
  have hbk := heap_alloc_new w (.cells #[.slice va rs'.length vc, .bool o] 106)
  have hval := fun w => Tryz.utf8_ValidRune r w
  rw [valid_rune] at hval
  unfold hasB
  generalize rs.any (G.within r) = bw at hS ⊢
  generalize G.runeB r = br at hval ⊢
  clear hok ho
  cases bw
  all_goals
    go_enter Tryz.func49, Tryz.ntmps49
    go_wp2_with (go_at_call 73; refine hS.mono ?_; rintro e w1 ⟨i, rfl, hb1⟩; have hb2 : w1.heap[w.heap.size]? = some (.cells #[.slice va rs'.length vc, .bool o] 106 (0, 0)) := (hb1.block w.heap.size (by simp)).trans hbk; have g1 : w1.cell? ⟨w.heap.size, 1, none⟩ = some (.bool o) := Rf.cell_blk hb2 1 _ rfl)
    go_quiet ((go_at_call 75; refine Calls.quiet_of_same (hval _)))
    go_wp2
    go_ret
    refine ⟨?_, below_drewN (((Below.refl _ w).alloc (Nat.le_refl _) _).trans (hb1.mono (by simp))) _⟩
    cases o <;> cases br <;> rfl

end Pr
end Go.Proofs.YtnclmcngdcncdaaGreatDoor

namespace Go.Proofs.YtnclmcngdcncdaaGreatDoor
namespace G

/-- One part, and nothing repeated. -/
def lone (x : PNode) : Bool := (decide (x.kind = 113) || decide (x.kind = 99)) && decide (x.parts.length = 1)
def bareF (T : List PNode) : Nat → Nat → Nat
  | 0, n => n
  | f + 1, n => match T[n]? with
    | some x => if lone x = true then bareF T f (x.parts.headD 0) else n
    | none => n
def bare (T : List PNode) (n : Nat) : Nat := bareF T (n + 1) n
theorem lone_head {x : PNode} (h : lone x = true) : ∃ p, x.parts = [p] := by
  simp only [lone, Bool.and_eq_true, decide_eq_true_eq] at h
  exact List.length_eq_one_iff.1 h.2
theorem bareF_fuel {T : List PNode} (hT : WF T) : ∀ (n f g : Nat), n < f → n < g → bareF T f n = bareF T g n := by
  intro n
  induction n using Nat.strongRecOn with
  | ind n ih =>
    intro f g hf hg
    match f, g, hf, hg with
    | f + 1, g + 1, hf, hg =>
      cases hx : T[n]? with
      | none => simp [bareF, hx]
      | some x =>
        simp only [bareF, hx]
        by_cases hl : lone x = true
        · rw [if_pos hl, if_pos hl]
          obtain ⟨p, hp⟩ := lone_head hl
          have hpn := (hT n x hx).parts p (by rw [hp]; simp)
          rw [hp]
          exact ih p hpn f g (by omega) (by omega)
        · rw [if_neg hl, if_neg hl]
theorem bare_step {T : List PNode} (hT : WF T) {n p : Nat} {x : PNode} (hx : T[n]? = some x) (hl : lone x = true) (hp : x.parts = [p]) : bare T n = bare T p := by
  have hpn := (hT n x hx).parts p (by rw [hp]; simp)
  unfold bare
  rw [show bareF T (n + 1) n = bareF T n p by simp [bareF, hx, hl, hp]]
  exact bareF_fuel hT p _ _ hpn (by omega)
theorem bare_end {T : List PNode} {n : Nat} {x : PNode} (hx : T[n]? = some x) (hl : lone x = false) : bare T n = n := by
  simp [bare, bareF, hx, hl]

theorem bareF_le {T : List PNode} (hT : WF T) : ∀ (f n : Nat), bareF T f n ≤ n
  | 0, n => Nat.le_refl _
  | f + 1, n => by
    cases hx : T[n]? with
    | none => simp [bareF, hx]
    | some x =>
      simp only [bareF, hx]
      by_cases hl : lone x = true
      · rw [if_pos hl]
        obtain ⟨p, hp⟩ := lone_head hl
        have hpn := (hT n x hx).parts p (by rw [hp]; simp)
        have := bareF_le hT f p
        rw [hp]
        show bareF T f p ≤ n
        omega
      · rw [if_neg hl]
        exact Nat.le_refl _
theorem bare_le {T : List PNode} (hT : WF T) (n : Nat) : bare T n ≤ n := bareF_le hT _ n

/-- Is it a repetition? -/
def reps (x : PNode) : Bool := decide (x.kind = 42) || decide (x.kind = 43) || decide (x.kind = 63)
theorem reps_one {T : List PNode} (hT : WF T) {n : Nat} {x : PNode} (hx : T[n]? = some x) (h : reps x = true) : ∃ p, x.parts = [p] ∧ p < n := by
  simp only [reps, Bool.or_eq_true, decide_eq_true_eq] at h
  have hk : x.parts.length = 1 := by
    rcases (hT n x hx).kind with ⟨k, _⟩ | ⟨k, _⟩ | ⟨_, k⟩
    · omega
    · omega
    · exact k
  obtain ⟨p, hp⟩ := List.length_eq_one_iff.1 hk
  exact ⟨p, hp, (hT n x hx).parts p (by rw [hp]; simp)⟩
def mix (k k' : Nat) : Nat := if k' = k then k else 42
def repF (T : List PNode) : Nat → Nat → Nat → Nat × Nat
  | 0, k, n => (k, n)
  | f + 1, k, n => match T[n]? with
    | some x => if reps x = true then repF T f (mix k x.kind) (bare T (x.parts.headD 0)) else (k, n)
    | none => (k, n)
def rep (T : List PNode) (k n : Nat) : Nat × Nat := repF T (n + 1) k n
theorem repF_fuel {T : List PNode} (hT : WF T) : ∀ (n f g k : Nat), n < f → n < g → repF T f k n = repF T g k n := by
  intro n
  induction n using Nat.strongRecOn with
  | ind n ih =>
    intro f g k hf hg
    match f, g, hf, hg with
    | f + 1, g + 1, hf, hg =>
      cases hx : T[n]? with
      | none => simp [repF, hx]
      | some x =>
        simp only [repF, hx]
        by_cases hl : reps x = true
        · rw [if_pos hl, if_pos hl]
          obtain ⟨p, hp, hpn⟩ := reps_one hT hx hl
          have := bare_le hT p
          rw [hp]
          exact ih (bare T p) (by omega) f g _ (by omega) (by omega)
        · rw [if_neg hl, if_neg hl]
theorem rep_step {T : List PNode} (hT : WF T) {n p k : Nat} {x : PNode} (hx : T[n]? = some x) (hl : reps x = true) (hp : x.parts = [p]) : rep T k n = rep T (mix k x.kind) (bare T p) := by
  obtain ⟨p', hp', hpn⟩ := reps_one hT hx hl
  have e : p' = p := by rw [hp] at hp'; simpa using hp'.symm
  subst e
  have := bare_le hT p'
  unfold rep
  rw [show repF T (n + 1) k n = repF T n (mix k x.kind) (bare T p') by simp [repF, hx, hl, hp]]
  exact repF_fuel hT _ _ _ _ (by omega) (by omega)
theorem rep_end {T : List PNode} {n k : Nat} {x : PNode} (hx : T[n]? = some x) (hl : reps x = false) : rep T k n = (k, n) := by
  simp [rep, repF, hx, hl]

end G
end Go.Proofs.YtnclmcngdcncdaaGreatDoor

namespace Go.Proofs.YtnclmcngdcncdaaGreatDoor
namespace Pr
open Go.RowKit
open Rf (Kept)
open G (PNode)

/-- A node's block. -/
def bl (B : List Nat) (p : Nat) : Nat := B.getD p 0
abbrev pv (a : Nat) : Value := .pointer (some ⟨a, 0, none⟩)
def ptrs (B : List Nat) (ps : List Nat) : List Value := ps.map fun p => pv (bl B p)
theorem bl_app {B X : List Nat} {p : Nat} (h : p < B.length) : bl (B ++ X) p = bl B p := by simp [bl, List.getElem?_append_left h]
theorem bl_new (B : List Nat) (a : Nat) : bl (B ++ [a]) B.length = a := by simp [bl]
theorem ptrs_app {B X : List Nat} {ps : List Nat} (h : ∀ p ∈ ps, p < B.length) : ptrs (B ++ X) ps = ptrs B ps := by
  apply List.map_congr_left
  intro p hp
  rw [bl_app (h p hp)]
theorem ptrs_snoc (B : List Nat) (ps : List Nat) (p : Nat) : ptrs B (ps ++ [p]) = ptrs B ps ++ [pv (bl B p)] := by simp [ptrs]
theorem ptrs_len (B ps : List Nat) : (ptrs B ps).length = ps.length := by simp [ptrs]

/-- The program's number of a kind. -/
def kindN (k : Nat) : Nat := if k = 113 then 1 else if k = 99 then 2 else if k = 42 then 3 else if k = 43 then 4 else 5

def leafCells (v : Value) (o : Bool) : Array Value := #[.int .i64 0, v, .bool o, .slice none 0 0, .int .i64 1]
def innerCells (k : Nat) (v : Value) (n : Nat) : Array Value := #[.int .i64 (k : Int), .slice none 0 0, .bool false, v, .int .i64 (n : Int)]

/-- A node at its block; all its blocks are in I. -/
def NodeAt (w : World) (I : Nat → Prop) (B : List Nat) (a : Nat) (x : PNode) : Prop :=
  if G.lone x = true then a = bl B (x.parts.headD 0)
  else if x.kind = 115 then I a ∧ ∃ v rs, w.heap[a]? = some (.cells (leafCells v x.other) 108 (0, 0)) ∧ w.ownsRow 0 154 2 v rs.length (rc rs) ∧ SetOk rs x.ranges ∧ ∀ k, v.ownBlock = some k → I k
  else I a ∧ ∃ v, w.heap[a]? = some (.cells (innerCells (kindN x.kind) v x.size) 108 (0, 0)) ∧ w.ownsRow 0 102 1 v x.parts.length (ptrs B x.parts) ∧ ∀ k, v.ownBlock = some k → I k

structure Tree (w : World) (I : Nat → Prop) (T : List PNode) (B : List Nat) : Prop where
  len : B.length = T.length
  node : ∀ n x, T[n]? = some x → NodeAt w I B (bl B n) x
  lt : ∀ k, I k → k < w.heap.size

theorem NodeAt.same {w w' : World} {I I' : Nat → Prop} {B : List Nat} {a : Nat} {x : PNode} (h : NodeAt w I B a x) (hI : ∀ k, I k → I' k) (hk : ∀ k, I k → w'.heap[k]? = w.heap[k]?) : NodeAt w' I' B a x := by
  unfold NodeAt at h ⊢
  by_cases h1 : G.lone x = true
  · rw [if_pos h1] at h ⊢
    exact h
  · rw [if_neg h1] at h ⊢
    by_cases h2 : x.kind = 115
    · rw [if_pos h2] at h ⊢
      obtain ⟨ha, v, rs, hb, ho, hok, hv⟩ := h
      exact ⟨hI a ha, v, rs, (hk a ha).trans hb, Rf.own_same ho (fun k e => hk k (hv k e)), hok, fun k e => hI k (hv k e)⟩
    · rw [if_neg h2] at h ⊢
      obtain ⟨ha, v, hb, ho, hv⟩ := h
      exact ⟨hI a ha, v, (hk a ha).trans hb, Rf.own_same ho (fun k e => hk k (hv k e)), fun k e => hI k (hv k e)⟩
theorem NodeAt.app {w : World} {I : Nat → Prop} {B X : List Nat} {a : Nat} {x : PNode} (h : NodeAt w I B a x) (hp : ∀ p ∈ x.parts, p < B.length) : NodeAt w I (B ++ X) a x := by
  unfold NodeAt at h ⊢
  by_cases h1 : G.lone x = true
  · rw [if_pos h1] at h ⊢
    obtain ⟨p, hpp⟩ := G.lone_head h1
    rw [hpp] at h ⊢
    rw [h]
    exact (bl_app (hp p (by rw [hpp]; simp))).symm
  · rw [if_neg h1] at h ⊢
    by_cases h2 : x.kind = 115
    · rw [if_pos h2] at h ⊢
      exact h
    · rw [if_neg h2] at h ⊢
      rw [ptrs_app hp]
      exact h

theorem Tree.same {w w' : World} {I : Nat → Prop} {T : List PNode} {B : List Nat} (h : Tree w I T B) (hs : w.heap.size ≤ w'.heap.size) (hk : ∀ k, I k → w'.heap[k]? = w.heap[k]?) : Tree w' I T B :=
  ⟨h.len, fun n x hx => (h.node n x hx).same (fun _ h => h) hk, fun k hI => Nat.lt_of_lt_of_le (h.lt k hI) hs⟩
theorem Tree.gr {w w' : World} {I : Nat → Prop} {T : List PNode} {B : List Nat} {b : Nat} (h : Tree w I T B) (hg : Kept (fun k => k ≠ b) w w') (hb : ¬ I b) : Tree w' I T B :=
  h.same hg.size (fun k hI => hg.block k (h.lt k hI) (fun e => hb (e ▸ hI)))
theorem Tree.below {w w' : World} {I : Nat → Prop} {T : List PNode} {B : List Nat} (h : Tree w I T B) (hb : Below w.heap.size w w') : Tree w' I T B :=
  h.same hb.size (fun k hI => hb.block k (h.lt k hI))

theorem get_snoc {α : Type} {l : List α} {y : α} {n : Nat} {x : α} (h : (l ++ [y])[n]? = some x) : l[n]? = some x ∨ (n = l.length ∧ x = y) := by
  rcases Nat.lt_or_ge n l.length with hl | hl
  · rw [List.getElem?_append_left hl] at h
    exact .inl h
  · right
    rw [List.getElem?_append_right hl] at h
    have h0 : n - l.length = 0 := by
      obtain ⟨h1, _⟩ := List.getElem?_eq_some_iff.1 h
      simp at h1
      omega
    rw [h0] at h
    simp only [List.getElem?_cons_zero, Option.some.injEq] at h
    exact ⟨by omega, h.symm⟩

/-- One node more. -/
theorem Tree.snoc {w : World} {I I' : Nat → Prop} {T : List PNode} {B : List Nat} {y : PNode} {a : Nat} (h : Tree w I T B) (hT : G.WF T) (hI : ∀ k, I k → I' k) (hlt : ∀ k, I' k → k < w.heap.size) (hp : ∀ p ∈ y.parts, p < T.length) (hy : NodeAt w I' B a y) : Tree w I' (T ++ [y]) (B ++ [a]) where
  len := by simp [h.len]
  node n x hx := by
    rcases get_snoc hx with hx | ⟨rfl, rfl⟩
    · have hn : n < T.length := (List.getElem?_eq_some_iff.1 hx).1
      rw [bl_app (by rw [h.len]; exact hn)]
      exact ((h.node n x hx).same hI (fun _ _ => rfl)).app (fun p hp => by have := (hT n x hx).parts p hp; rw [h.len]; omega)
    · rw [← h.len, bl_new]
      exact hy.app (fun p hp2 => by rw [h.len]; exact hp p hp2)
  lt := hlt

/-- How many places, as the tree has it. -/
theorem Tree.places {w : World} {I : Nat → Prop} {T : List PNode} {B : List Nat} (h : Tree w I T B) (hT : G.WF T) : ∀ n, n < T.length → w.cell? ⟨bl B n, 4, none⟩ = some (.int .i64 (G.sz T n : Int)) := by
  intro n
  induction n using Nat.strongRecOn with
  | ind n ih =>
    intro hn
    have hx := List.getElem?_eq_getElem hn
    generalize T[n] = x at hx
    have hN := h.node n x hx
    have hG := hT n x hx
    rw [G.sz_eq hx]
    unfold NodeAt at hN
    by_cases h1 : G.lone x = true
    · rw [if_pos h1] at hN
      obtain ⟨p, hp⟩ := G.lone_head h1
      have hpn := hG.parts p (by rw [hp]; simp)
      rw [hp] at hN
      rw [hN]
      show w.cell? ⟨bl B p, 4, none⟩ = _
      rw [ih p hpn (by omega)]
      have hk : x.kind ≠ 115 := by
        simp only [G.lone, Bool.and_eq_true, Bool.or_eq_true, decide_eq_true_eq] at h1
        omega
      have hsz := hG.size
      rw [if_neg hk, hp] at hsz
      have hle : G.sz T p ≤ 101 := by
        have hpx := List.getElem?_eq_getElem (show p < T.length by omega)
        rw [G.sz_eq hpx]
        exact hT.le _ (List.mem_of_getElem? hpx)
      have e : G.sizeOf T [p] = G.sz T p := by simp [G.sizeOf]
      rw [e] at hsz
      congr 2
      omega
    · rw [if_neg h1] at hN
      by_cases h2 : x.kind = 115
      · rw [if_pos h2] at hN
        obtain ⟨_, v, rs, hb, _⟩ := hN
        have hsz := hG.size
        have hps : x.parts = [] := by
          rcases hG.kind with ⟨_, k⟩ | ⟨k, _⟩ | ⟨k, _⟩
          · exact k
          · omega
          · omega
        rw [if_pos h2, hps] at hsz
        have e : x.size = 1 := by simpa [G.sizeOf] using hsz
        rw [e]
        exact Rf.cell_blk hb 4 _ rfl
      · rw [if_neg h2] at hN
        obtain ⟨_, v, hb, _⟩ := hN
        exact Rf.cell_blk hb 4 _ rfl

/-- A larger tree. -/
structure Ext (w : World) (I : Nat → Prop) (B : List Nat) (I' : Nat → Prop) (B' : List Nat) : Prop where
  sub : ∀ k, I k → I' k
  new : ∀ k, I' k → I k ∨ w.heap.size ≤ k
  app : ∃ X, B' = B ++ X
theorem Ext.refl (w : World) (I : Nat → Prop) (B : List Nat) : Ext w I B I B := ⟨fun _ h => h, fun _ h => .inl h, [], by simp⟩
theorem Ext.trans {w w' : World} {I I' I'' : Nat → Prop} {B B' B'' : List Nat} (h : Ext w I B I' B') (hs : w.heap.size ≤ w'.heap.size) (g : Ext w' I' B' I'' B'') : Ext w I B I'' B'' where
  sub k hk := g.sub k (h.sub k hk)
  new k hk := by
    rcases g.new k hk with h2 | h2
    · exact h.new k h2
    · exact .inr (Nat.le_trans hs h2)
  app := by
    obtain ⟨X, hX⟩ := h.app
    obtain ⟨Y, hY⟩ := g.app
    exact ⟨X ++ Y, by rw [hY, hX, List.append_assoc]⟩
theorem Ext.low {w w' : World} {I I' : Nat → Prop} {B B' : List Nat} (h : Ext w' I B I' B') (hs : w.heap.size ≤ w'.heap.size) : Ext w I B I' B' := (Ext.refl w I B).trans hs h
theorem Ext.ptrs {w : World} {I I' : Nat → Prop} {B B' : List Nat} (h : Ext w I B I' B') {ps : List Nat} (hp : ∀ p ∈ ps, p < B.length) : ptrs B' ps = ptrs B ps := by
  obtain ⟨X, rfl⟩ := h.app
  exact ptrs_app hp
theorem Ext.bl {w : World} {I I' : Nat → Prop} {B B' : List Nat} (h : Ext w I B I' B') {p : Nat} (hp : p < B.length) : bl B' p = bl B p := by
  obtain ⟨X, rfl⟩ := h.app
  exact bl_app hp

end Pr
end Go.Proofs.YtnclmcngdcncdaaGreatDoor
