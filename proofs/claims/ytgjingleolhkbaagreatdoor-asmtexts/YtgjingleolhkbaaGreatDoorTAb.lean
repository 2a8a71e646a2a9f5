/- The library's contracts of what asmtext calls of strings and strconv, laid over this program: which function and which type of the program stands for which of the contracts' own. -/
import Derived.Shelf.Strconv.ParseIntPublic10
import Derived.Shelf.Strings.Cut
import Derived.Shelf.Strings.FieldsFuncAny
import Derived.Shelf.Strings.OnBuilder
import Derived.Shelf.Small.Wraps
import Derived.Shelf.Small.Strs
import Derived.Shelf.Strconv.Itoa4
import Derived.Test.YtgjingleolhkbaaGreatDoorProg
import Derived.Test.YtgjingleolhkbaaGreatDoorTAa
import Derived.Deep.RegionHeld3
namespace Go.Proofs
open Go.Shelf
def Tryz.lays137_ren : Go.Shelf.Ren := ⟨fun | 137 => 108 | 217 => 117 | 266 => 127 | n => n, fun | 9 => 9 | 5 => 5 | 3 => 3 | n => n, fun | n => n⟩
theorem Tryz.lays137 : Go.Proofs.Lays.n137 Tryz.prog Tryz.lays137_ren := {
 mixed := by kernel_rfl
 f137 := Tryz.func108.trans (congrArg some (by kernel_rfl))
 f217 := Tryz.func117.trans (congrArg some (by kernel_rfl))
 f266 := Tryz.func127.trans (congrArg some (by kernel_rfl))
 t3 := Tryz.underlying3
 a3 := Tryz.isAgg3
 z3 := Tryz.sizeOf3
 v3 := Tryz.zeroValue3
 t5 := Tryz.underlying5
 a5 := Tryz.isAgg5
 z5 := Tryz.sizeOf5
 v5 := Tryz.zeroValue5
 t9 := Tryz.underlying9
 a9 := Tryz.isAgg9
 z9 := Tryz.sizeOf9
 v9 := Tryz.zeroValue9 }
open Go.RowKit in
theorem Tryz.strings_IndexByte (s : ByteArray) (c : Int) (w : World) :
  Calls Tryz.prog 108 #[.string s, .int .u8 c] w fun e w' => e = .returned (.int .i64 (Lib.indexByte s.data.toList c.toNat.toUInt8)) ∧ w' = w := Any.strings_IndexByte Tryz.lays137 s c w
def Tryz.lays104_ren : Go.Shelf.Ren := ⟨fun | 104 => 104 | 211 => 113 | 207 => 123 | n => n, fun | 9 => 9 | 4 => 4 | 24 => 135 | 3 => 3 | n => n, fun | n => n⟩
theorem Tryz.lays104 : Go.Proofs.Lays.n104 Tryz.prog Tryz.lays104_ren := {
 mixed := by kernel_rfl
 f104 := Tryz.func104.trans (congrArg some (by kernel_rfl))
 f207 := Tryz.func123.trans (congrArg some (by kernel_rfl))
 f211 := Tryz.func113.trans (congrArg some (by kernel_rfl))
 t3 := Tryz.underlying3
 a3 := Tryz.isAgg3
 z3 := Tryz.sizeOf3
 v3 := Tryz.zeroValue3
 t4 := Tryz.underlying4
 a4 := Tryz.isAgg4
 z4 := Tryz.sizeOf4
 v4 := Tryz.zeroValue4
 t9 := Tryz.underlying9
 a9 := Tryz.isAgg9
 z9 := Tryz.sizeOf9
 v9 := Tryz.zeroValue9
 t24 := Tryz.underlying135
 a24 := Tryz.isAgg135
 z24 := Tryz.sizeOf135
 v24 := Tryz.zeroValue135 }
open Go.RowKit in
theorem Tryz.strings_CutSuffix (s p : ByteArray) (w : World) (hs : s.size ≤ 9223372036854775807) :
  Calls Tryz.prog 104 #[.string s, .string p] w fun e w' => e = .returned (.tuple #[.string ⟨(Lib.trimSuffix s.data.toList p.data.toList).toArray⟩, .bool (Lib.hasSuffix s.data.toList p.data.toList)]) ∧ w' = w := Any.strings_CutSuffix Tryz.lays104 s p w hs
open Go.RowKit Go.Sort Go.Lib in
open Go.RowKit Go.Sort Go.Lib in
def Tryz.laysM173_ren : Go.Shelf.Ren := ⟨fun | 173 => 131 | 246 => 137 | 283 => 143 | 284 => 144 | 285 => 145 | 286 => 146 | 129 => 149 | 317 => 148 | 318 => 150 | 319 => 151 | 320 => 152 | 337 => 153 | 338 => 154 | n => n, fun | 2 => 2 | 3 => 3 | 9 => 9 | 4 => 4 | 171 => 177 | 0 => 0 | 53 => 116 | 37 => 65 | 5 => 5 | 173 => 180 | 212 => 187 | 51 => 161 | 20 => 20 | 213 => 188 | 46 => 123 | 232 => 191 | 233 => 192 | n => n, fun | 17 => 6 | 18 => 7 | 19 => 8 | n => n⟩
theorem Tryz.laysM173 : Go.Proofs.LaysM.n173 Tryz.prog Tryz.laysM173_ren := {
 mixed := by kernel_rfl
 f129 := Tryz.func149.trans (congrArg some (by kernel_rfl))
 f173 := Tryz.func131.trans (congrArg some (by kernel_rfl))
 f246 := Tryz.func137.trans (congrArg some (by kernel_rfl))
 f283 := Tryz.func143.trans (congrArg some (by kernel_rfl))
 f284 := Tryz.func144.trans (congrArg some (by kernel_rfl))
 f285 := Tryz.func145.trans (congrArg some (by kernel_rfl))
 f286 := Tryz.func146.trans (congrArg some (by kernel_rfl))
 f317 := Tryz.func148.trans (congrArg some (by kernel_rfl))
 f318 := Tryz.func150.trans (congrArg some (by kernel_rfl))
 f319 := Tryz.func151.trans (congrArg some (by kernel_rfl))
 f320 := Tryz.func152.trans (congrArg some (by kernel_rfl))
 f337 := Tryz.func153.trans (congrArg some (by kernel_rfl))
 f338 := Tryz.func154.trans (congrArg some (by kernel_rfl))
 t0 := Tryz.underlying0
 a0 := Tryz.isAgg0
 z0 := Tryz.sizeOf0
 v0 := Tryz.zeroValue0
 t2 := Tryz.underlying2
 a2 := Tryz.isAgg2
 z2 := Tryz.sizeOf2
 v2 := Tryz.zeroValue2
 t3 := Tryz.underlying3
 a3 := Tryz.isAgg3
 z3 := Tryz.sizeOf3
 v3 := Tryz.zeroValue3
 t4 := Tryz.underlying4
 a4 := Tryz.isAgg4
 z4 := Tryz.sizeOf4
 v4 := Tryz.zeroValue4
 t5 := Tryz.underlying5
 a5 := Tryz.isAgg5
 z5 := Tryz.sizeOf5
 v5 := Tryz.zeroValue5
 t9 := Tryz.underlying9
 a9 := Tryz.isAgg9
 z9 := Tryz.sizeOf9
 v9 := Tryz.zeroValue9
 t20 := Tryz.underlying20
 a20 := Tryz.isAgg20
 z20 := Tryz.sizeOf20
 v20 := Tryz.zeroValue20
 t37 := Tryz.underlying65
 a37 := Tryz.isAgg65
 z37 := Tryz.sizeOf65
 v37 := Tryz.zeroValue65
 t46 := Tryz.underlying123
 a46 := Tryz.isAgg123
 z46 := Tryz.sizeOf123
 v46 := Tryz.zeroValue123
 t51 := Tryz.underlying161
 a51 := Tryz.isAgg161
 z51 := Tryz.sizeOf161
 v51 := Tryz.zeroValue161
 t53 := Tryz.underlying116
 a53 := Tryz.isAgg116
 z53 := Tryz.sizeOf116
 v53 := Tryz.zeroValue116
 t171 := Tryz.underlying177
 a171 := Tryz.isAgg177
 z171 := Tryz.sizeOf177
 v171 := Tryz.zeroValue177
 t173 := Tryz.underlying180
 a173 := Tryz.isAgg180
 z173 := Tryz.sizeOf180
 v173 := Tryz.zeroValue180
 t212 := Tryz.underlying187
 a212 := Tryz.isAgg187
 z212 := Tryz.sizeOf187
 v212 := Tryz.zeroValue187
 t213 := Tryz.underlying188
 a213 := Tryz.isAgg188
 z213 := Tryz.sizeOf188
 t232 := Tryz.underlying191
 a232 := Tryz.isAgg191
 z232 := Tryz.sizeOf191
 v232 := Tryz.zeroValue191
 t233 := Tryz.underlying192
 a233 := Tryz.isAgg192
 z233 := Tryz.sizeOf192
 v233 := Tryz.zeroValue192
 g17 := by kernel_rfl
 g18 := by kernel_rfl
 g19 := by kernel_rfl
 i0 := by kernel_rfl
 i2 := by kernel_rfl
 i3 := by kernel_rfl
 i4 := by kernel_rfl
 i5 := by kernel_rfl
 i9 := by kernel_rfl
 i20 := by kernel_rfl
 i37 := by kernel_rfl
 i46 := by kernel_rfl
 i51 := by kernel_rfl
 i53 := by kernel_rfl
 i171 := by kernel_rfl
 i173 := by kernel_rfl
 i212 := by kernel_rfl
 i232 := by kernel_rfl
 i233 := by kernel_rfl
 m17 := by kernel_rfl
 m18 := by kernel_rfl
 m19 := by kernel_rfl }
open Go.RowKit Go.Sort Go.Lib in
theorem Tryz.strconv_FormatInt_10 (n : Int) (h0 : -9223372036854775808 ≤ n) (h1 : n ≤ 9223372036854775807) (w : World) (htab : Lib.TabIs Tryz.prog w "internal/strconv.uint64pow10" .u64 Lib.pow10Tab) :
  Calls Tryz.prog 131 #[.int .i64 n, .int .i64 10] w fun e w' => e = .returned (.string ⟨(Lib.itoa n).toArray⟩) ∧ ∃ k os, w' = grow (w.drewN k) os := Any.strconv_FormatInt_10 Tryz.laysM173 n h0 h1 w htab
def Tryz.laysC174_ren : Go.Shelf.Ren := ⟨fun | 174 => 124 | 247 => 129 | 245 => 130 | 287 => 132 | 279 => 133 | 280 => 134 | 281 => 135 | 282 => 136 | 321 => 138 | 322 => 139 | 316 => 140 | 171 => 142 | 205 => 141 | 243 => 147 | 246 => 137 | 283 => 143 | 284 => 144 | 285 => 145 | 286 => 146 | 129 => 149 | 317 => 148 | 318 => 150 | 319 => 151 | 320 => 152 | 337 => 153 | 338 => 154 | n => n, fun | 9 => 9 | 3 => 3 | 2 => 2 | 75 => 157 | 85 => 158 | 4 => 4 | 167 => 166 | 5 => 5 | 53 => 116 | 175 => 167 | 46 => 123 | 168 => 169 | 37 => 65 | 0 => 0 | 210 => 175 | 21 => 21 | 127 => 182 | 145 => 185 | 143 => 183 | 171 => 177 | 173 => 180 | 212 => 187 | 51 => 161 | 20 => 20 | 213 => 188 | 232 => 191 | 233 => 192 | 80 => 193 | n => n, fun | 15 => 4 | 16 => 5 | 17 => 6 | 18 => 7 | 19 => 8 | n => n⟩
theorem Tryz.laysC174 : Go.Proofs.LaysC.n174 Tryz.prog Tryz.laysC174_ren := {
 mixed := by kernel_rfl
 f129 := Tryz.func149.trans (congrArg some (by kernel_rfl))
 f171 := Tryz.func142.trans (congrArg some (by kernel_rfl))
 f174 := Tryz.func124.trans (congrArg some (by kernel_rfl))
 f205 := Tryz.func141.trans (congrArg some (by kernel_rfl))
 f243 := Tryz.func147.trans (congrArg some (by kernel_rfl))
 f245 := Tryz.func130.trans (congrArg some (by kernel_rfl))
 f246 := Tryz.func137.trans (congrArg some (by kernel_rfl))
 f247 := Tryz.func129.trans (congrArg some (by kernel_rfl))
 f279 := Tryz.func133.trans (congrArg some (by kernel_rfl))
 f280 := Tryz.func134.trans (congrArg some (by kernel_rfl))
 f281 := Tryz.func135.trans (congrArg some (by kernel_rfl))
 f282 := Tryz.func136.trans (congrArg some (by kernel_rfl))
 f283 := Tryz.func143.trans (congrArg some (by kernel_rfl))
 f284 := Tryz.func144.trans (congrArg some (by kernel_rfl))
 f285 := Tryz.func145.trans (congrArg some (by kernel_rfl))
 f286 := Tryz.func146.trans (congrArg some (by kernel_rfl))
 f287 := Tryz.func132.trans (congrArg some (by kernel_rfl))
 f316 := Tryz.func140.trans (congrArg some (by kernel_rfl))
 f317 := Tryz.func148.trans (congrArg some (by kernel_rfl))
 f318 := Tryz.func150.trans (congrArg some (by kernel_rfl))
 f319 := Tryz.func151.trans (congrArg some (by kernel_rfl))
 f320 := Tryz.func152.trans (congrArg some (by kernel_rfl))
 f321 := Tryz.func138.trans (congrArg some (by kernel_rfl))
 f322 := Tryz.func139.trans (congrArg some (by kernel_rfl))
 f337 := Tryz.func153.trans (congrArg some (by kernel_rfl))
 f338 := Tryz.func154.trans (congrArg some (by kernel_rfl))
 t0 := Tryz.underlying0
 a0 := Tryz.isAgg0
 z0 := Tryz.sizeOf0
 v0 := Tryz.zeroValue0
 t2 := Tryz.underlying2
 a2 := Tryz.isAgg2
 z2 := Tryz.sizeOf2
 v2 := Tryz.zeroValue2
 t3 := Tryz.underlying3
 a3 := Tryz.isAgg3
 z3 := Tryz.sizeOf3
 v3 := Tryz.zeroValue3
 t4 := Tryz.underlying4
 a4 := Tryz.isAgg4
 z4 := Tryz.sizeOf4
 v4 := Tryz.zeroValue4
 t5 := Tryz.underlying5
 a5 := Tryz.isAgg5
 z5 := Tryz.sizeOf5
 v5 := Tryz.zeroValue5
 t9 := Tryz.underlying9
 a9 := Tryz.isAgg9
 z9 := Tryz.sizeOf9
 v9 := Tryz.zeroValue9
 t20 := Tryz.underlying20
 a20 := Tryz.isAgg20
 z20 := Tryz.sizeOf20
 v20 := Tryz.zeroValue20
 t21 := Tryz.underlying21
 a21 := Tryz.isAgg21
 z21 := Tryz.sizeOf21
 v21 := Tryz.zeroValue21
 t37 := Tryz.underlying65
 a37 := Tryz.isAgg65
 z37 := Tryz.sizeOf65
 v37 := Tryz.zeroValue65
 t46 := Tryz.underlying123
 a46 := Tryz.isAgg123
 z46 := Tryz.sizeOf123
 v46 := Tryz.zeroValue123
 t51 := Tryz.underlying161
 a51 := Tryz.isAgg161
 z51 := Tryz.sizeOf161
 v51 := Tryz.zeroValue161
 t53 := Tryz.underlying116
 a53 := Tryz.isAgg116
 z53 := Tryz.sizeOf116
 v53 := Tryz.zeroValue116
 t75 := Tryz.underlying157
 a75 := Tryz.isAgg157
 z75 := Tryz.sizeOf157
 v75 := Tryz.zeroValue157
 t85 := Tryz.underlying158
 a85 := Tryz.isAgg158
 z85 := Tryz.sizeOf158
 v85 := Tryz.zeroValue158
 t127 := Tryz.underlying182
 a127 := Tryz.isAgg182
 z127 := Tryz.sizeOf182
 v127 := Tryz.zeroValue182
 t143 := Tryz.underlying183
 a143 := Tryz.isAgg183
 z143 := Tryz.sizeOf183
 v143 := Tryz.zeroValue183
 t145 := Tryz.underlying185
 a145 := Tryz.isAgg185
 z145 := Tryz.sizeOf185
 v145 := Tryz.zeroValue185
 t167 := Tryz.underlying166
 a167 := Tryz.isAgg166
 z167 := Tryz.sizeOf166
 v167 := Tryz.zeroValue166
 t168 := Tryz.underlying169
 a168 := Tryz.isAgg169
 z168 := Tryz.sizeOf169
 v168 := Tryz.zeroValue169
 t171 := Tryz.underlying177
 a171 := Tryz.isAgg177
 z171 := Tryz.sizeOf177
 v171 := Tryz.zeroValue177
 t173 := Tryz.underlying180
 a173 := Tryz.isAgg180
 z173 := Tryz.sizeOf180
 v173 := Tryz.zeroValue180
 t175 := Tryz.underlying167
 a175 := Tryz.isAgg167
 z175 := Tryz.sizeOf167
 v175 := Tryz.zeroValue167
 t210 := Tryz.underlying175
 a210 := Tryz.isAgg175
 z210 := Tryz.sizeOf175
 v210 := Tryz.zeroValue175
 t212 := Tryz.underlying187
 a212 := Tryz.isAgg187
 z212 := Tryz.sizeOf187
 v212 := Tryz.zeroValue187
 t213 := Tryz.underlying188
 a213 := Tryz.isAgg188
 z213 := Tryz.sizeOf188
 t232 := Tryz.underlying191
 a232 := Tryz.isAgg191
 z232 := Tryz.sizeOf191
 v232 := Tryz.zeroValue191
 t233 := Tryz.underlying192
 a233 := Tryz.isAgg192
 z233 := Tryz.sizeOf192
 v233 := Tryz.zeroValue192
 g15 := by kernel_rfl
 g16 := by kernel_rfl
 g17 := by kernel_rfl
 g18 := by kernel_rfl
 g19 := by kernel_rfl
 t80 := Tryz.underlying193
 a80 := Tryz.isAgg193
 z80 := Tryz.sizeOf193
 v80 := Tryz.zeroValue193
 i0 := by kernel_rfl
 i2 := by kernel_rfl
 i3 := by kernel_rfl
 i4 := by kernel_rfl
 i5 := by kernel_rfl
 i9 := by kernel_rfl
 i20 := by kernel_rfl
 i21 := by kernel_rfl
 i37 := by kernel_rfl
 i46 := by kernel_rfl
 i51 := by kernel_rfl
 i53 := by kernel_rfl
 i75 := by kernel_rfl
 i80 := by kernel_rfl
 i85 := by kernel_rfl
 i127 := by kernel_rfl
 i143 := by kernel_rfl
 i145 := by kernel_rfl
 i167 := by kernel_rfl
 i168 := by kernel_rfl
 i171 := by kernel_rfl
 i173 := by kernel_rfl
 i175 := by kernel_rfl
 i210 := by kernel_rfl
 i212 := by kernel_rfl
 i232 := by kernel_rfl
 i233 := by kernel_rfl
 m15 := by kernel_rfl
 m16 := by kernel_rfl
 m17 := by kernel_rfl
 m18 := by kernel_rfl
 m19 := by kernel_rfl
 c0 := by kernel_rfl
 c2 := by kernel_rfl
 c3 := by kernel_rfl
 c4 := by kernel_rfl
 c5 := by kernel_rfl
 c9 := by kernel_rfl
 c20 := by kernel_rfl
 c21 := by kernel_rfl
 c37 := by kernel_rfl
 c46 := by kernel_rfl
 c51 := by kernel_rfl
 c53 := by kernel_rfl
 c75 := by kernel_rfl
 c80 := by kernel_rfl
 c85 := by kernel_rfl
 c127 := by kernel_rfl
 c143 := by kernel_rfl
 c145 := by kernel_rfl
 c167 := by kernel_rfl
 c168 := by kernel_rfl
 c171 := by kernel_rfl
 c173 := by kernel_rfl
 c175 := by kernel_rfl
 c210 := by kernel_rfl
 c212 := by kernel_rfl
 c213 := by kernel_rfl
 c232 := by kernel_rfl
 c233 := by kernel_rfl }
open Go.RowKit in
theorem Tryz.strconv_ParseInt_10_at64_ok (s : ByteArray) (hmax : s.size ≤ 9223372036854775806) (v : Int) (h : Lib.parseIntB 64 s.data.toList = .ok v) (w : World) :
  Calls Tryz.prog 124 #[.string s, .int .i64 10, .int .i64 64] w fun e w' => e = .returned (.tuple #[.int .i64 v, .nilIface]) ∧ (w' = w ∨ ∃ t, w' = Lib.bytesWorld w 5 t) := Any.strconv_ParseInt_10_at64_ok Tryz.laysC174 s hmax v h w
open Go.RowKit in
theorem Tryz.strconv_ParseInt_10_at64_syntax (s : ByteArray) (hlim : s.size ≤ 281474976710656) (h : Lib.parseIntB 64 s.data.toList = .«syntax») (ev : Value) (w : World) (hv : w.cell? ⟨4, 0, none⟩ = some ev) (hev : ev = .nilIface ∨ ∃ te pe, ev = .iface te pe) :
  Calls Tryz.prog 124 #[.string s, .int .i64 10, .int .i64 64] w fun e w' => ∃ N, e = .returned (.tuple #[.int .i64 (0), .iface 169 (.pointer (some ⟨N, 0, none⟩))]) ∧ w.heap.size ≤ N ∧ w'.heap[N]? = some (.cells #[.string ⟨#[80, 97, 114, 115, 101, 73, 110, 116]⟩, .string s, ev] 175 (0, 0)) ∧ Below w.heap.size w w' := Any.strconv_ParseInt_10_at64_syntax Tryz.laysC174 s hlim h ev w hv hev
open Go.RowKit in
theorem Tryz.strconv_ParseInt_10_at64_range (s : ByteArray) (hlim : s.size ≤ 281474976710656) (h : Lib.parseIntB 64 s.data.toList = .range) (ev : Value) (w : World) (hv : w.cell? ⟨5, 0, none⟩ = some ev) (hev : ev = .nilIface ∨ ∃ te pe, ev = .iface te pe) :
  Calls Tryz.prog 124 #[.string s, .int .i64 10, .int .i64 64] w fun e w' => ∃ N, e = .returned (.tuple #[.int .i64 (Lib.intSat 64 s.data.toList), .iface 169 (.pointer (some ⟨N, 0, none⟩))]) ∧ w.heap.size ≤ N ∧ w'.heap[N]? = some (.cells #[.string ⟨#[80, 97, 114, 115, 101, 73, 110, 116]⟩, .string s, ev] 175 (0, 0)) ∧ Below w.heap.size w w' := Any.strconv_ParseInt_10_at64_range Tryz.laysC174 s hlim h ev w hv hev
def Tryz.lays145_ren : Go.Shelf.Ren := ⟨fun | 145 => 83 | 220 => 101 | 219 => 112 | 217 => 117 | 225 => 120 | 224 => 121 | 267 => 122 | 266 => 127 | 314 => 128 | n => n, fun | 9 => 9 | 4 => 4 | 59 => 119 | 3 => 3 | 5 => 5 | 46 => 123 | 146 => 162 | 51 => 161 | n => n, fun | 1 => 3 | n => n⟩
theorem Tryz.lays145 : Go.Proofs.Lays.n145 Tryz.prog Tryz.lays145_ren := {
 mixed := by kernel_rfl
 f145 := Tryz.func83.trans (congrArg some (by kernel_rfl))
 f217 := Tryz.func117.trans (congrArg some (by kernel_rfl))
 f219 := Tryz.func112.trans (congrArg some (by kernel_rfl))
 f220 := Tryz.func101.trans (congrArg some (by kernel_rfl))
 f224 := Tryz.func121.trans (congrArg some (by kernel_rfl))
 f225 := Tryz.func120.trans (congrArg some (by kernel_rfl))
 f266 := Tryz.func127.trans (congrArg some (by kernel_rfl))
 f267 := Tryz.func122.trans (congrArg some (by kernel_rfl))
 f314 := Tryz.func128.trans (congrArg some (by kernel_rfl))
 t3 := Tryz.underlying3
 a3 := Tryz.isAgg3
 z3 := Tryz.sizeOf3
 v3 := Tryz.zeroValue3
 t4 := Tryz.underlying4
 a4 := Tryz.isAgg4
 z4 := Tryz.sizeOf4
 v4 := Tryz.zeroValue4
 t5 := Tryz.underlying5
 a5 := Tryz.isAgg5
 z5 := Tryz.sizeOf5
 v5 := Tryz.zeroValue5
 t9 := Tryz.underlying9
 a9 := Tryz.isAgg9
 z9 := Tryz.sizeOf9
 v9 := Tryz.zeroValue9
 t46 := Tryz.underlying123
 a46 := Tryz.isAgg123
 z46 := Tryz.sizeOf123
 v46 := Tryz.zeroValue123
 t51 := Tryz.underlying161
 a51 := Tryz.isAgg161
 z51 := Tryz.sizeOf161
 v51 := Tryz.zeroValue161
 t59 := Tryz.underlying119
 a59 := Tryz.isAgg119
 z59 := Tryz.sizeOf119
 v59 := Tryz.zeroValue119
 t146 := Tryz.underlying162
 a146 := Tryz.isAgg162
 z146 := Tryz.sizeOf162
 v146 := Tryz.zeroValue162
 g1 := by kernel_rfl }
open Go.RowKit Go.Lib in
theorem Tryz.strings_Cut (s sep : ByteArray) (m : Int) (w : World) (hs : s.size < 4294967281) (hm : w.cell? ⟨3, 0, none⟩ = some (.int .i64 m)) :
  Calls Tryz.prog 83 #[.string s, .string sep] w fun e w' => e = .returned (.tuple #[.string ⟨(Lib.cut s.data.toList sep.data.toList).1.toArray⟩, .string ⟨(Lib.cut s.data.toList sep.data.toList).2.1.toArray⟩, .bool (Lib.cut s.data.toList sep.data.toList).2.2]) ∧ ∃ n, w' = w.drewN n := Any.strings_Cut Tryz.lays145 s sep m w hs hm
def Tryz.lays229_ren : Go.Shelf.Ren := ⟨fun | 229 => 102 | n => n, fun | 9 => 9 | 40 => 140 | 31 => 74 | 152 => 149 | 3 => 3 | 0 => 0 | 4 => 4 | 21 => 21 | 154 => 151 | n => n, fun | n => n⟩
theorem Tryz.lays229 : Go.Proofs.Lays.n229 Tryz.prog Tryz.lays229_ren := {
 mixed := by kernel_rfl
 f229 := Tryz.func102.trans (congrArg some (by kernel_rfl))
 t0 := Tryz.underlying0
 a0 := Tryz.isAgg0
 z0 := Tryz.sizeOf0
 v0 := Tryz.zeroValue0
 t3 := Tryz.underlying3
 a3 := Tryz.isAgg3
 z3 := Tryz.sizeOf3
 v3 := Tryz.zeroValue3
 t4 := Tryz.underlying4
 a4 := Tryz.isAgg4
 z4 := Tryz.sizeOf4
 v4 := Tryz.zeroValue4
 t9 := Tryz.underlying9
 a9 := Tryz.isAgg9
 z9 := Tryz.sizeOf9
 v9 := Tryz.zeroValue9
 t21 := Tryz.underlying21
 a21 := Tryz.isAgg21
 z21 := Tryz.sizeOf21
 v21 := Tryz.zeroValue21
 t31 := Tryz.underlying74
 a31 := Tryz.isAgg74
 z31 := Tryz.sizeOf74
 v31 := Tryz.zeroValue74
 t40 := Tryz.underlying140
 a40 := Tryz.isAgg140
 z40 := Tryz.sizeOf140
 v40 := Tryz.zeroValue140
 t152 := Tryz.underlying149
 a152 := Tryz.isAgg149
 z152 := Tryz.sizeOf149
 v152 := Tryz.zeroValue149
 t154 := Tryz.underlying151
 a154 := Tryz.isAgg151
 z154 := Tryz.sizeOf151
 v154 := Tryz.zeroValue151 }
open Go.RowKit Go.Lib in
theorem Tryz.strings_FieldsFunc_runes (g : Nat) (lb : Array Value) (eg : ∀ args w, (callFunc g args).run Tryz.prog w = .ok (.enter g args) w) (p : Nat → Bool) (s : ByteArray) (w : World) (hs : s.size ≤ 4294967296) (hp : PredAtRunes Tryz.prog g lb p w) :
  Calls Tryz.prog 102 #[.string s, .func (.func g) #[] lb] w fun e w' => ∃ A, e = .returned (.slice (some ⟨A, 0, none⟩) (Lib.goFieldsP p s).length (Lib.goFieldsP p s).length) ∧ w.heap.size ≤ A ∧
   w'.ownsRow w.heap.size 9 1 (.slice (some ⟨A, 0, none⟩) (Lib.goFieldsP p s).length (Lib.goFieldsP p s).length) (Lib.goFieldsP p s).length ((Lib.goFieldsP p s).map Value.string) ∧ Below w.heap.size w w' := Any.strings_FieldsFunc_runes Tryz.lays229 g lb eg p s w hs hp (by kernel_rfl) (by kernel_rfl)
end Go.Proofs

/- The table of rows, and what reads it; numbers and registers. -/
namespace Go.Proofs.YtgjingleolhkbaaGreatDoor
open Go.RowKit
set_option linter.unusedVariables false
set_option linter.unusedSimpArgs false

structure Tab (w : World) : Prop where
 rw : ∀ k, k < 34 → w.cell? ⟨0, k * 2, none⟩ = some (.string (X.str (X.row k).1)) ∧ w.cell? ⟨0, k * 2 + 1, none⟩ = some (.string (X.str (X.row k).2))
 ml : ∃ m, w.cell? ⟨3, 0, none⟩ = some (.int .i64 m)
 pw : Lib.TabIs Tryz.prog w "internal/strconv.uint64pow10" .u64 Lib.pow10Tab
 es : ∃ ev, w.cell? ⟨4, 0, none⟩ = some ev ∧ (ev = .nilIface ∨ ∃ te pe, ev = .iface te pe)
 er : ∃ ev, w.cell? ⟨5, 0, none⟩ = some ev ∧ (ev = .nilIface ∨ ∃ te pe, ev = .iface te pe)
 hz : 9 ≤ w.heap.size

theorem gPow : Tryz.prog.globalNamed "internal/strconv.uint64pow10" = some 6 := by kernel_rfl
theorem Tab.below {w w' : World} (h : Tab w) (hb : Below w.heap.size w w') : Tab w' := by
 have hz := h.hz
 have k : ∀ b o, b < 9 → w'.cell? ⟨b, o, none⟩ = w.cell? ⟨b, o, none⟩ := fun b o hb' => hb.cell (p := ⟨b, o, none⟩) (show b < w.heap.size by omega)
 obtain ⟨e1, h1, h2⟩ := h.es
 obtain ⟨e2, h3, h4⟩ := h.er
 obtain ⟨m, h5⟩ := h.ml
 refine ⟨fun j hj => ⟨(k 0 _ (by omega)).trans (h.rw j hj).1, (k 0 _ (by omega)).trans (h.rw j hj).2⟩, ⟨m, (k 3 0 (by omega)).trans h5⟩, ?_, ⟨e1, (k 4 0 (by omega)).trans h1, h2⟩, ⟨e2, (k 5 0 (by omega)).trans h3, h4⟩, Nat.le_trans hz hb.size⟩
 have hp := h.pw
 unfold Lib.TabIs World.var? at *
 rw [gPow] at *
 simp only [Option.bind_some] at hp ⊢
 rw [hb.block 6 (by omega)]
 exact hp
theorem Tab.alloc {w : World} (h : Tab w) (o : Obj) : Tab (w.alloc o) := h.below ((Below.refl _ _).alloc (Nat.le_refl _) _)
theorem below_grow' (w : World) (k : Nat) (os : Array Obj) : Below w.heap.size w (Go.Sort.grow (w.drewN k) os) := by
 refine ⟨rfl, rfl, rfl, ?_, fun i hi => ?_⟩
 ·show w.heap.size ≤ (w.heap ++ os).size
  simp
 ·show (w.heap ++ os)[i]? = w.heap[i]?
  rw [Array.getElem?_append_left hi]

/-! ### Numbers -/
set_option maxHeartbeats 4000000 in
theorem digits_any (n : Int) (h : X.fits n) (w : World) (ht : Tab w) :
  Calls Tryz.prog 125 #[.int .i64 n] w fun e w' => e = .returned (.string (X.str (Go.Lib.itoa n))) ∧ Below w.heap.size w w' := by
 have hp := ht.pw
 obtain ⟨h0, h1⟩ := h
 go_enter Tryz.func125, Tryz.ntmps125
 go_wp2_with fail
 refine (Tryz.strconv_FormatInt_10 n h0 h1 _ hp).mono ?_
 rintro e w' ⟨rfl, k, os, rfl⟩
 have HB : Hid _ := below_grow' w k os
 generalize Go.Sort.grow (w.drewN k) os = w1 at *
 go_wp2
 go_ret
 exact ⟨rfl, HB.out⟩

def NumIs (l : X.By) (z : Int) (ok : Bool) : Prop := (ok = true → X.num l = some z) ∧ (ok = false → X.num l = none)
def NumOut (w : World) (l : X.By) (e : Ending) (w' : World) : Prop := ∃ z ok, e = .returned (.tuple #[.int .i64 z, .bool ok]) ∧ NumIs l z ok ∧ Below w.heap.size w w'
set_option maxHeartbeats 4000000 in
theorem number_any (s : ByteArray) (hs : s.size ≤ 281474976710656) (w : World) (ht : Tab w) :
  Calls Tryz.prog 114 #[.string s] w (NumOut w s.data.toList) := by
 obtain ⟨e1, he1, he1'⟩ := ht.es
 obtain ⟨e2, he2, he2'⟩ := ht.er
 have HT : Hid _ := ht
 clear ht
 cases hp : Go.Lib.parseIntB 64 s.data.toList with
 | ok n =>
  have hf := X.parse_fits hp
  have hok : ∀ w : World, ∃ w1, Below w.heap.size w w1 ∧ True := fun w => ⟨w, Below.refl _ _, trivial⟩
  clear hok
  by_cases hd : Go.Lib.itoa n = s.data.toList
  ·have HR : Hid (X.num s.data.toList = some n) := by show _ = _; unfold X.num; rw [hp]; simp [hd]
   have heq : ((X.str (Go.Lib.itoa n)).toList == s.toList) = true := toList_eq' (by rw [str_list]; exact hd)
   clear he1 he1' he2 he2' hd
   go_enter Tryz.func114, Tryz.ntmps114
   go_wp2_with fail
   refine (Tryz.strconv_ParseInt_10_at64_ok s (by omega) n hp _).mono ?_
   rintro e w1 ⟨rfl, hw⟩
   have HB1 : Hid (Below w.heap.size w w1) := by
    show Below _ _ _
    rcases hw with rfl | ⟨t, rfl⟩
    ·exact Below.refl _ _
    ·exact Lib.bytesWorld_below _ _ _
   clear hw hp
   have HT1 : Hid (Tab w1) := HT.out.below HB1.out
   go_wp2_with fail
   refine (digits_any n hf w1 HT1.out).mono ?_
   rintro e w2 ⟨rfl, HB2⟩
   have HB2' : Hid _ := HB2
   clear HB2
   go_wp2
   go_ret2
   exact ⟨_, _, rfl, ⟨fun _ => HR.out, (fun h => by cases h)⟩, HB1.out.trans (HB2'.out.mono HB1.out.size)⟩
  ·have HR : Hid (X.num s.data.toList = none) := by show _ = _; unfold X.num; rw [hp]; simp [hd]
   have heq : ((X.str (Go.Lib.itoa n)).toList == s.toList) = false := toList_ne' (by rw [str_list]; exact hd)
   clear he1 he1' he2 he2' hd
   go_enter Tryz.func114, Tryz.ntmps114
   go_wp2_with fail
   refine (Tryz.strconv_ParseInt_10_at64_ok s (by omega) n hp _).mono ?_
   rintro e w1 ⟨rfl, hw⟩
   have HB1 : Hid (Below w.heap.size w w1) := by
    show Below _ _ _
    rcases hw with rfl | ⟨t, rfl⟩
    ·exact Below.refl _ _
    ·exact Lib.bytesWorld_below _ _ _
   clear hw hp
   have HT1 : Hid (Tab w1) := HT.out.below HB1.out
   go_wp2_with fail
   refine (digits_any n hf w1 HT1.out).mono ?_
   rintro e w2 ⟨rfl, HB2⟩
   have HB2' : Hid _ := HB2
   clear HB2
   go_wp2
   go_ret2
   exact ⟨_, _, rfl, ⟨(fun h => by cases h), fun _ => HR.out⟩, HB1.out.trans (HB2'.out.mono HB1.out.size)⟩
 | «syntax» =>
  have HR : Hid (X.num s.data.toList = none) := by show _ = _; unfold X.num; rw [hp]
  go_enter Tryz.func114, Tryz.ntmps114
  go_wp2_with fail
  refine (Tryz.strconv_ParseInt_10_at64_syntax s hs hp e1 _ he1 he1').mono ?_
  rintro e w1 ⟨N, rfl, -, -, hb⟩
  have HB : Hid _ := hb
  clear hb hp he1 he1' he2 he2'
  go_wp2
  go_ret2
  exact ⟨_, _, rfl, ⟨(fun h => by cases h), fun _ => HR.out⟩, HB.out⟩
 | range =>
  have HR : Hid (X.num s.data.toList = none) := by show _ = _; unfold X.num; rw [hp]
  go_enter Tryz.func114, Tryz.ntmps114
  go_wp2_with fail
  refine (Tryz.strconv_ParseInt_10_at64_range s hs hp e2 _ he2 he2').mono ?_
  rintro e w1 ⟨N, rfl, -, -, hb⟩
  have HB : Hid _ := hb
  clear hb hp he1 he1' he2 he2'
  generalize Lib.intSat 64 s.data.toList = z
  go_wp2
  go_ret2
  exact ⟨_, _, rfl, ⟨(fun h => by cases h), fun _ => HR.out⟩, HB.out⟩

/-! ### Registers -/
theorem reg_two {s : ByteArray} (h : s.size = 2) : s.data.toList = [s[0]'(by omega), s[1]'(by omega)] := by
 have := drop_cons s 0 (by omega)
 rw [List.drop_zero, drop_cons s 1 (by omega), List.drop_eq_nil_of_le (by simp; omega)] at this
 exact this
theorem reg_no {s : ByteArray} (h : s.size ≠ 2) : X.reg s.data.toList = none := by
 have hl : s.data.toList.length ≠ 2 := by rw [len_list]; exact h
 generalize s.data.toList = l at hl
 unfold X.reg
 split
 ·simp at hl
 ·rfl
def RegOut (w : World) (r : Option Int) (e : Ending) (w' : World) : Prop := (match r with | none => e = .returned (.tuple #[.int .i64 0, .bool false]) | some x => e = .returned (.tuple #[.int .i64 x, .bool true])) ∧ w' = w
theorem ret_t {a b : Int} {k : Bool} (h : a = b) : Ending.returned (.tuple #[.int .i64 a, .bool k]) = .returned (.tuple #[.int .i64 b, .bool k]) := by rw [h]
set_option maxHeartbeats 4000000 in
theorem register_any (s : ByteArray) (w : World) :
  Calls Tryz.prog 126 #[.string s] w (RegOut w (X.reg s.data.toList)) := by
 by_cases h2 : s.size = 2
 ·have hl := reg_two h2
  have h0 : 0 < s.size := by omega
  have h1 : 1 < s.size := by omega
  have h2' : ((s.size : Int) != 2) = false := by simp; omega
  by_cases hr : s[0] = 114
  ·have hr' : ((s[0].toNat : Int) != 114) = false := by rw [hr]; decide
   cases hd : X.dg s[1].toNat
   ·have HR : Hid (X.reg s.data.toList = none) := by show _ = _; rw [hl]; simp [X.reg, hd]
    clear hl hr
    go_enter Tryz.func126, Tryz.ntmps126
    go_wp2_with (go_at_call 88; refine (isDigit_any s[1].toNat _).mono ?_; rw [hd]; rintro e w' ⟨rfl, rfl⟩)
    go_ret2
    unfold RegOut; rw [HR.out]; exact ⟨rfl, rfl⟩
   ·have HR : Hid (X.reg s.data.toList = some ((s[1].toNat : Int) - 48)) := by show _ = _; rw [hl]; simp [X.reg, hd, hr]
    have hd' : 48 ≤ s[1].toNat ∧ s[1].toNat ≤ 57 := by simpa [X.dg] using hd
    obtain ⟨d1, d2⟩ := hd'
    clear hl hr
    go_enter Tryz.func126, Tryz.ntmps126
    go_wp2_with (go_at_call 88; refine (isDigit_any s[1].toNat _).mono ?_; rw [hd]; rintro e w' ⟨rfl, rfl⟩)
    go_ret2
    unfold RegOut; rw [HR.out]; exact ⟨by first | rfl | exact ret_t (by go_num) | exact ret_t (by omega), rfl⟩
  ·have hr' : ((s[0].toNat : Int) != 114) = true := by
    simp only [bne_iff_ne, ne_eq]
    intro e
    exact hr (UInt8.toNat_inj.1 (by rw [show (114 : UInt8).toNat = 114 from rfl]; omega))
   have HR : Hid (X.reg s.data.toList = none) := by show _ = _; rw [hl]; simp [X.reg, hr]
   clear hl hr
   go_enter Tryz.func126, Tryz.ntmps126
   go_wp2
   go_ret2
   unfold RegOut; rw [HR.out]; exact ⟨rfl, rfl⟩
 ·have HR : Hid _ := reg_no h2
  have h2' : ((s.size : Int) != 2) = true := by simp; omega
  clear h2
  go_enter Tryz.func126, Tryz.ntmps126
  go_wp2
  go_ret2
  unfold RegOut; rw [HR.out]; exact ⟨rfl, rfl⟩
/-! ### The table -/
theorem indexByte_ge (l : X.By) (c : UInt8) : decide (0 ≤ Go.Lib.indexByte l c) = l.contains c := by
 induction l with
 | nil => rfl
 | cons b l ih =>
  unfold Go.Lib.indexByte
  by_cases h : b = c
  ·subst h; simp
  ·have h' : (b == c) = false := by simp [h]
   have h'' : (c == b) = false := by simp; exact fun e => h e.symm
   rw [List.contains_cons, h'', Bool.false_or, ← ih, if_neg (by simp [h])]
   split
   ·rename_i h1
    have : Go.Lib.indexByte l c = -1 := by simpa using h1
    rw [this]
   ·rename_i h1
    have h2 : Go.Lib.indexByte l c ≠ -1 := by simpa using h1
    have h3 : -1 ≤ Go.Lib.indexByte l c := by
     clear h h' h'' h1 h2 ih
     induction l with
     | nil => simp [Go.Lib.indexByte]
     | cons d l ih => unfold Go.Lib.indexByte; split; omega; split; omega; omega
    rw [Bool.eq_iff_iff]; simp; omega
set_option maxHeartbeats 4000000 in
theorem has_any (m b : ByteArray) (c : Nat) (hc : c < 256) (w : World) :
  Calls Tryz.prog 90 #[.agg #[.string m, .string b], .int .u8 c] w fun e w' => e = .returned (.bool (X.has b.data.toList (UInt8.ofNat c))) ∧ w' = w.alloc (.cells #[.string m, .string b] 125) := by
 have h := fun w => Tryz.strings_IndexByte b c w
 simp only [Int.toNat_natCast] at h
 have hR : X.has b.data.toList (UInt8.ofNat c) = decide (0 ≤ Go.Lib.indexByte b.data.toList c.toUInt8) := (indexByte_ge _ _).symm
 rw [hR]
 clear hR
 generalize Go.Lib.indexByte b.data.toList c.toUInt8 = z at *
 go_enter Tryz.func90, Tryz.ntmps90
 go_wp2_with (go_at_call 108; refine (h _).mono ?_; rintro e w' ⟨rfl, rfl⟩)
 go_ret
 exact ⟨rfl, rfl⟩

end Go.Proofs.YtgjingleolhkbaaGreatDoor

/- Whether an item may be; whether items may. -/
namespace Go.Proofs.YtgjingleolhkbaaGreatDoor
open Go.RowKit
set_option linter.unusedVariables false
set_option linter.unusedSimpArgs false

theorem isEmpty_str {l : X.By} (h : l ≠ []) : (X.str l).toList.isEmpty = false := by
 rw [ByteArray.toList_eq, str_list]
 cases l with | nil => exact absurd rfl h | cons => rfl
theorem isEmpty_nil {l : X.By} (h : l = []) : (X.str l).toList.isEmpty = true := by
 rw [ByteArray.toList_eq, str_list, h]
 rfl
def RowOut (w : World) (r : Option (X.By × X.By)) (e : Ending) (w' : World) : Prop :=
 (match r with | none => e = .returned (.tuple #[.agg #[.string { data := #[] }, .string { data := #[] }], .bool false]) | some p => e = .returned (.tuple #[.agg #[.string (X.str p.1), .string (X.str p.2)], .bool true])) ∧ Below w.heap.size w w'

set_option maxRecDepth 100000 in
set_option maxHeartbeats 4000000 in
theorem rowOf_any (op : Int) (w : World) (ht : Tab w) :
  Calls Tryz.prog 89 #[.int .i64 op] w (RowOut w (X.rowOf op)) := by
 by_cases h0 : op < 0
 ·have HR : Hid (X.rowOf op = none) := by show _ = _; unfold X.rowOf; rw [if_neg (by omega)]
  clear ht
  go_enter Tryz.func89, Tryz.ntmps89
  go_wp2
  refine bodyPost_ret (v := .tuple #[.agg #[.string { data := #[] }, .string { data := #[] }], .bool false]) ?_ rfl ?_
  ·simp [results, Tryz.results89, go_sem]
  ·unfold RowOut; rw [HR.out]; exact ⟨rfl, bl1 _ _⟩
 by_cases h1 : 34 ≤ op
 ·have HR : Hid (X.rowOf op = none) := by show _ = _; unfold X.rowOf; rw [if_neg (by omega)]
  clear ht
  go_enter Tryz.func89, Tryz.ntmps89
  go_wp2
  refine bodyPost_ret (v := .tuple #[.agg #[.string { data := #[] }, .string { data := #[] }], .bool false]) ?_ rfl ?_
  ·simp [results, Tryz.results89, go_sem]
  ·unfold RowOut; rw [HR.out]; exact ⟨rfl, bl1 _ _⟩
 obtain ⟨k, rfl⟩ : ∃ k : Nat, op = k := ⟨op.toNat, by omega⟩
 have hk : k < 34 := by omega
 obtain ⟨c1, c2⟩ := ht.rw k hk
 have hz := ht.hz
 have z0 : 0 < w.heap.size := by omega
 have d1 := fun o => (Below.cell (p := ⟨0, k * 2, none⟩) (bl1 w o) z0).trans c1
 have d2 := fun o => (Below.cell (p := ⟨0, k * 2 + 1, none⟩) (bl1 w o) z0).trans c2
 clear ht hz
 by_cases he : (X.row k).1 = []
 ·have HR : Hid (X.rowOf k = none) := by show _ = _; unfold X.rowOf; rw [if_neg (by simp [he])]
  have hE := isEmpty_nil he
  clear he
  generalize X.str (X.row k).1 = b1 at *
  generalize X.str (X.row k).2 = b2 at *
  go_enter Tryz.func89, Tryz.ntmps89
  go_wp2
  refine bodyPost_ret (v := .tuple #[.agg #[.string { data := #[] }, .string { data := #[] }], .bool false]) ?_ rfl ?_
  ·simp [results, Tryz.results89, go_sem]
  ·unfold RowOut; rw [HR.out]; exact ⟨rfl, bl1 _ _⟩
 ·have HR : Hid (X.rowOf k = some (X.row k)) := by show _ = _; unfold X.rowOf; rw [if_pos ⟨by omega, by omega, by simpa using he⟩]; simp
  have hE := isEmpty_str he
  have HO : Hid (∀ (e : Ending) (w' : World), e = .returned (.tuple #[.agg #[.string (X.str (X.row k).1), .string (X.str (X.row k).2)], .bool true]) → Below w.heap.size w w' → RowOut w (X.rowOf k) e w') := fun e w' h1 h2 => by unfold RowOut; rw [HR.out]; exact ⟨h1, h2⟩
  clear he
  generalize X.str (X.row k).1 = b1 at *
  generalize X.str (X.row k).2 = b2 at *
  go_enter Tryz.func89, Tryz.ntmps89
  go_wp2
  refine bodyPost_ret (v := .tuple #[.agg #[.string b1, .string b2], .bool true]) ?_ rfl ?_
  ·simp [results, Tryz.results89, go_sem]
  ·exact HO.out _ _ rfl (bl1 _ _)

/-! ### Instructions -/
set_option maxHeartbeats 4000000 in
theorem has_int (m b : ByteArray) (c : Int) (h0 : 0 ≤ c) (h1 : c < 256) (w : World) :
  Calls Tryz.prog 90 #[.agg #[.string m, .string b], .int .u8 c] w fun e w' => e = .returned (.bool (X.has b.data.toList (UInt8.ofNat c.toNat))) ∧ Below w.heap.size w w' := by
 obtain ⟨k, rfl⟩ : ∃ k : Nat, c = k := ⟨c.toNat, by omega⟩
 refine (has_any m b k (by omega) w).mono ?_
 rintro e w' ⟨rfl, rfl⟩
 exact ⟨by simp, bl1 _ _⟩
theorem cell_thru {w w1 : World} (hb : Below w.heap.size w w1) {b o : Nat} {u : Value} (h : w.cell? ⟨b, o, none⟩ = some u) : w1.cell? ⟨b, o, none⟩ = some u :=
 (hb.cell (p := ⟨b, o, none⟩) (World.block_lt_of_cell? w ⟨b, o, none⟩ h)).trans h
theorem row_cell {w : World} {a : Array Value} {t : TypeId} {k : Nat} {u : Value} (h : a[k]? = some u) : (w.alloc (.cells a t)).cell? ⟨w.heap.size, k, none⟩ = some u := by
 rw [World.cell?_alloc_new]; exact h
theorem neq_empty {s : ByteArray} : s.toList.isEmpty = decide (s.data.toList = []) := by
 rw [ByteArray.toList_eq]; cases s.data.toList <;> simp

def insQ (nm : X.By) (op a b n : Int) (r : X.By) : Bool := decide (X.has r 64 = decide (nm ≠ [])) && ((decide (nm = []) || X.name nm) && ((decide (a = 0) || X.has r 65) && ((decide (b = 0) || X.has r 66) && ((decide (n = 0) || X.has r 78) && (X.isReg a && (X.isReg b && X.numOk op n))))))
theorem tA {l : List Oper} {i : Nat} {y : Oper} (h : l[i]? = some y) : (List.toArray l)[i]? = some y := by simpa using h
theorem tk {P : Program} {ops : Array Oper} {Q : Exit → Act → World → Prop} {md : Region.Mode} {S : World → Prop} {i : Nat} {oi : Oper} {v : Value} {fuel : Nat} {listed : Array Bool} {a : Act} {w : World} (hi : ops[i]? = some oi) (hb : (Region.noSelect ops && (Region.free md ops listed i && (Region.ready md ops listed).contains i)) = true)
  (hQ : ∀ c a w, Q (.panic c) (a.put oi.dst v) w → Q (.panic c) a w) (hy : YieldsIf P ops S oi v a) (hS : S w) (h : wpAnyH P md ops Q S fuel (listed.setIfInBounds i true) (a.put oi.dst v) w) : wpAnyH P md ops Q S (fuel + 1) listed a w :=
 wpAnyH_take hi (Bool.and_eq_true_iff.1 hb).1 (Bool.and_eq_true_iff.1 (Bool.and_eq_true_iff.1 hb).2).1 (Bool.and_eq_true_iff.1 (Bool.and_eq_true_iff.1 hb).2).2 hQ hy hS h
theorem tj {P : Program} {l : List Oper} {Q : Exit → Act → World → Prop} {md : Region.Mode} {S : World → Prop} {oi : Oper} {fuel : Nat} {listed : Array Bool} {a : Act} {w : World} {v : Value} (i : Nat) (h : wpAnyH P md l.toArray Q S fuel (listed.setIfInBounds i true) (a.put oi.dst v) w) (hi : l[i]? = some oi := by rfl) (hb : (Region.noSelect l.toArray && (Region.free md l.toArray listed i && (Region.ready md l.toArray listed).contains i)) = true := by kernel_rfl) (hg : Region.wanted oi (yielded l.toArray a.tmps) = true := by rfl) (hy : ∀ w, S w → (execOp a.eval oi).run P w = .ok (.value v) w := by intro w hSw; (try dsimp only at hSw); go_simp <;> with_reducible rfl) (hQ : ∀ c a w, Q (.panic c) (a.put oi.dst v) w → Q (.panic c) a w := by exact fun _ _ _ h => h) (hS : S w := by assumption) : wpAnyH P md l.toArray Q S (fuel + 1) listed a w := tk (tA hi) hb hQ (Or.inl ⟨hg, hy⟩) hS h
theorem tu {P : Program} {l : List Oper} {Q : Exit → Act → World → Prop} {md : Region.Mode} {S : World → Prop} {oi : Oper} {fuel : Nat} {listed : Array Bool} {a : Act} {w : World} (i : Nat) (h : wpAnyH P md l.toArray Q S fuel (listed.setIfInBounds i true) (a.put oi.dst undef) w) (hi : l[i]? = some oi := by rfl) (hb : (Region.noSelect l.toArray && (Region.free md l.toArray listed i && (Region.ready md l.toArray listed).contains i)) = true := by kernel_rfl) (hg : Region.wanted oi (yielded l.toArray a.tmps) = false := by rfl) (hQ : ∀ c a w, Q (.panic c) (a.put oi.dst undef) w → Q (.panic c) a w := by exact fun _ _ _ h => h) (hS : S w := by assumption) : wpAnyH P md l.toArray Q S (fuel + 1) listed a w := tk (tA hi) hb hQ (Or.inr ⟨hg, rfl⟩) hS h
theorem tr {P : Program} {ops : Array Oper} {Q : Exit → Act → World → Prop} {md : Region.Mode} {S : World → Prop} {fuel : Nat} {listed : Array Bool} {a : Act} {w : World} (rs : List Nat) (h : AllReadyH P md ops Q S fuel listed a w rs) (hr : Region.ready md ops listed = rs := by kernel_rfl) (hne : rs ≠ [] := by simp) : wpAnyH P md ops Q S (fuel + 1) listed a w := wpAnyH_ready hr hne h
theorem zA {α : Type} {l : List α} {i : Nat} {a : α} : l.toArray.setIfInBounds i a = (l.set i a).toArray := List.setIfInBounds_toArray ..
theorem zB {α : Type} {x : α} {xs : List α} {a : α} : (x :: xs).set 0 a = a :: xs := rfl
theorem zC {α : Type} {x : α} {xs : List α} {i : Nat} {a : α} : (x :: xs).set (i + 1) a = x :: xs.set i a := rfl
def insR (op a b n : Int) (r : X.By) : Bool := (decide (a = 0) || X.has r 65) && ((decide (b = 0) || X.has r 66) && ((decide (n = 0) || X.has r 78) && (X.isReg a && (X.isReg b && X.numOk op n))))
theorem insOk_eq {t : X.It} {r : X.By × X.By} (h : X.rowOf t.op = some r) : X.insOk t = insQ t.name t.op t.a t.b t.n r.2 := by
 unfold X.insOk; rw [h]; rfl
theorem insOk_none {t : X.It} (h : X.rowOf t.op = none) : X.insOk t = false := by
 unfold X.insOk; rw [h]

theorem hid_trans {A B C : World} (h : Hid (Below A.heap.size A B)) (h2 : Below B.heap.size B C) : Hid (Below A.heap.size A C) := h.out.trans (h2.mono h.out.size)
theorem ne_i {x y : Int} (h : ¬ x = y) : (x != y) = true := by simp [h]
theorem eq_i {x y : Int} (h : x = y) : (x != y) = false := by simp [h]

end Go.Proofs.YtgjingleolhkbaaGreatDoor
