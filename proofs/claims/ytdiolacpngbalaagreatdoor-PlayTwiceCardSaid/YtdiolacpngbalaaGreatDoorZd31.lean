/- PShelf -/
import Derived.Shelf.Small.Bits
import Derived.Shelf.Small.Wraps
import Derived.Shelf.Strconv.Itoa0
import Derived.Shelf.Strconv.Itoa1
import Derived.Shelf.LaysM
import Derived.Shelf.Strconv.Itoa2
import Derived.Shelf.Strconv.Itoa3
import Derived.Shelf.Strconv.Itoa4
import Derived.Shelf.Strconv.ParseIntEmpty
import Derived.Shelf.Strconv.Clone
import Derived.Shelf.Strconv.SyntaxError
import Derived.Shelf.LaysC
import Derived.Shelf.Strconv.ToError
import Derived.Shelf.Strconv.Lower
import Derived.Shelf.Strconv.ParseUint10
import Derived.Shelf.Strconv.ParseUint10Empty
import Derived.Shelf.Strconv.ParseUint10Any
import Derived.Shelf.Strconv.ParseInt10
import Derived.Shelf.Strconv.RangeError
import Derived.Shelf.Strconv.ToErrorRange
import Derived.Shelf.Strconv.ParseUintEmpty
import Derived.Shelf.Strconv.ParseUint10b64
import Derived.Shelf.Strconv.ParseUint10b32
import Derived.Shelf.Strconv.ParseUint10b16
import Derived.Shelf.Strconv.ParseUint10b8
import Derived.Shelf.Strconv.ParseUint10At
import Derived.Shelf.Strconv.ParseInt10At64
import Derived.Shelf.Strconv.ParseInt10At32
import Derived.Shelf.Strconv.ParseInt10At16
import Derived.Shelf.Strconv.ParseInt10At8
import Derived.Shelf.Strconv.ParseInt10All
import Derived.Shelf.Strconv.ParseIntPublic10
import Derived.Shelf.Strconv.ErrVarParseInt
import Derived.Shelf.Strings.Search1
import Derived.Shelf.Strings.Search2
import Derived.Shelf.Strings.Cut
import Derived.Shelf.Strings.Shaped
import Derived.Shelf.Sort.Plain
import Derived.Shelf.Slices.Turned
import Derived.Ground.Names2Prog
import Derived.Shelf.Slices.SearchI
import Derived.Shelf.Slices.In.SortNone
import Derived.Ground.SlgfProg
import Derived.Shelf.SlicesE.IndexFunc
import Derived.Shelf.SlicesE.DeleteFunc
import Derived.Test.YtdiolacpngbalaaGreatDoorProg

section
namespace Go.Proofs
open Go.Shelf
def Tryz.lays171_ren : Go.Shelf.Ren:=⟨fun | 171=>63 | 243=>84 | 246=>102 | 283=>130 | 284=>131 | 285=>132 | 286=>133 | 129=>153 | 317=>152 | 318=>154 | 319=>155 | 320=>156 | 337=>165 | 338=>166 | n=>n,fun | 3=>3 | 9=>9 | 2=>2 | 4=>4 | 171=>183 | 0=>0 | 53=>184 | 37=>50 | 5=>5 | 173=>187 | 212=>203 | 51=>204 | 20=>20 | 213=>205 | 46=>28 | 232=>221 | 233=>222 | n=>n,fun | 17=>0 | 18=>2 | 19=>3 | n=>n⟩
theorem Tryz.lays171 : Go.Proofs.Lays.n171 Tryz.prog Tryz.lays171_ren:={
  mixed:=by kernel_rfl
  f129:=Tryz.func153.trans (congrArg some (by kernel_rfl))
  f171:=Tryz.func63.trans (congrArg some (by kernel_rfl))
  f243:=Tryz.func84.trans (congrArg some (by kernel_rfl))
  f246:=Tryz.func102.trans (congrArg some (by kernel_rfl))
  f283:=Tryz.func130.trans (congrArg some (by kernel_rfl))
  f284:=Tryz.func131.trans (congrArg some (by kernel_rfl))
  f285:=Tryz.func132.trans (congrArg some (by kernel_rfl))
  f286:=Tryz.func133.trans (congrArg some (by kernel_rfl))
  f317:=Tryz.func152.trans (congrArg some (by kernel_rfl))
  f318:=Tryz.func154.trans (congrArg some (by kernel_rfl))
  f319:=Tryz.func155.trans (congrArg some (by kernel_rfl))
  f320:=Tryz.func156.trans (congrArg some (by kernel_rfl))
  f337:=Tryz.func165.trans (congrArg some (by kernel_rfl))
  f338:=Tryz.func166.trans (congrArg some (by kernel_rfl))
  t0:=Tryz.underlying0
  a0:=Tryz.isAgg0
  z0:=Tryz.sizeOf0
  v0:=Tryz.zeroValue0
  t2:=Tryz.underlying2
  a2:=Tryz.isAgg2
  z2:=Tryz.sizeOf2
  v2:=Tryz.zeroValue2
  t3:=Tryz.underlying3
  a3:=Tryz.isAgg3
  z3:=Tryz.sizeOf3
  v3:=Tryz.zeroValue3
  t4:=Tryz.underlying4
  a4:=Tryz.isAgg4
  z4:=Tryz.sizeOf4
  v4:=Tryz.zeroValue4
  t5:=Tryz.underlying5
  a5:=Tryz.isAgg5
  z5:=Tryz.sizeOf5
  v5:=Tryz.zeroValue5
  t9:=Tryz.underlying9
  a9:=Tryz.isAgg9
  z9:=Tryz.sizeOf9
  v9:=Tryz.zeroValue9
  t20:=Tryz.underlying20
  a20:=Tryz.isAgg20
  z20:=Tryz.sizeOf20
  v20:=Tryz.zeroValue20
  t37:=Tryz.underlying50
  a37:=Tryz.isAgg50
  z37:=Tryz.sizeOf50
  v37:=Tryz.zeroValue50
  t46:=Tryz.underlying28
  a46:=Tryz.isAgg28
  z46:=Tryz.sizeOf28
  v46:=Tryz.zeroValue28
  t51:=Tryz.underlying204
  a51:=Tryz.isAgg204
  z51:=Tryz.sizeOf204
  v51:=Tryz.zeroValue204
  t53:=Tryz.underlying184
  a53:=Tryz.isAgg184
  z53:=Tryz.sizeOf184
  v53:=Tryz.zeroValue184
  t171:=Tryz.underlying183
  a171:=Tryz.isAgg183
  z171:=Tryz.sizeOf183
  v171:=Tryz.zeroValue183
  t173:=Tryz.underlying187
  a173:=Tryz.isAgg187
  z173:=Tryz.sizeOf187
  v173:=Tryz.zeroValue187
  t212:=Tryz.underlying203
  a212:=Tryz.isAgg203
  z212:=Tryz.sizeOf203
  v212:=Tryz.zeroValue203
  t213:=Tryz.underlying205
  a213:=Tryz.isAgg205
  z213:=Tryz.sizeOf205
  t232:=Tryz.underlying221
  a232:=Tryz.isAgg221
  z232:=Tryz.sizeOf221
  v232:=Tryz.zeroValue221
  t233:=Tryz.underlying222
  a233:=Tryz.isAgg222
  z233:=Tryz.sizeOf222
  v233:=Tryz.zeroValue222
  g17:=by kernel_rfl
  g18:=by kernel_rfl
  g19:=by kernel_rfl }
open Go.RowKit Go.Sort Go.Lib in
theorem Tryz.strconv_Itoa_small (i : Nat) (hi : i < 100) (w : World) :
    Calls Tryz.prog 63 #[.int .i64 i] w fun e w'=>e = .returned (.string ⟨(Lib.decDigits i).toArray⟩)∧w' = w:=Any.strconv_Itoa_small Tryz.lays171 i hi w
def Tryz.laysM173_ren : Go.Shelf.Ren:=⟨fun | 173=>163 | 246=>102 | 283=>130 | 284=>131 | 285=>132 | 286=>133 | 129=>153 | 317=>152 | 318=>154 | 319=>155 | 320=>156 | 337=>165 | 338=>166 | n=>n,fun | 2=>2 | 3=>3 | 9=>9 | 4=>4 | 171=>183 | 0=>0 | 53=>184 | 37=>50 | 5=>5 | 173=>187 | 212=>203 | 51=>204 | 20=>20 | 213=>205 | 46=>28 | 232=>221 | 233=>222 | n=>n,fun | 17=>0 | 18=>2 | 19=>3 | n=>n⟩
theorem Tryz.laysM173 : Go.Proofs.LaysM.n173 Tryz.prog Tryz.laysM173_ren:={
  mixed:=by kernel_rfl
  f129:=Tryz.func153.trans (congrArg some (by kernel_rfl))
  f173:=Tryz.func163.trans (congrArg some (by kernel_rfl))
  f246:=Tryz.func102.trans (congrArg some (by kernel_rfl))
  f283:=Tryz.func130.trans (congrArg some (by kernel_rfl))
  f284:=Tryz.func131.trans (congrArg some (by kernel_rfl))
  f285:=Tryz.func132.trans (congrArg some (by kernel_rfl))
  f286:=Tryz.func133.trans (congrArg some (by kernel_rfl))
  f317:=Tryz.func152.trans (congrArg some (by kernel_rfl))
  f318:=Tryz.func154.trans (congrArg some (by kernel_rfl))
  f319:=Tryz.func155.trans (congrArg some (by kernel_rfl))
  f320:=Tryz.func156.trans (congrArg some (by kernel_rfl))
  f337:=Tryz.func165.trans (congrArg some (by kernel_rfl))
  f338:=Tryz.func166.trans (congrArg some (by kernel_rfl))
  t0:=Tryz.underlying0
  a0:=Tryz.isAgg0
  z0:=Tryz.sizeOf0
  v0:=Tryz.zeroValue0
  t2:=Tryz.underlying2
  a2:=Tryz.isAgg2
  z2:=Tryz.sizeOf2
  v2:=Tryz.zeroValue2
  t3:=Tryz.underlying3
  a3:=Tryz.isAgg3
  z3:=Tryz.sizeOf3
  v3:=Tryz.zeroValue3
  t4:=Tryz.underlying4
  a4:=Tryz.isAgg4
  z4:=Tryz.sizeOf4
  v4:=Tryz.zeroValue4
  t5:=Tryz.underlying5
  a5:=Tryz.isAgg5
  z5:=Tryz.sizeOf5
  v5:=Tryz.zeroValue5
  t9:=Tryz.underlying9
  a9:=Tryz.isAgg9
  z9:=Tryz.sizeOf9
  v9:=Tryz.zeroValue9
  t20:=Tryz.underlying20
  a20:=Tryz.isAgg20
  z20:=Tryz.sizeOf20
  v20:=Tryz.zeroValue20
  t37:=Tryz.underlying50
  a37:=Tryz.isAgg50
  z37:=Tryz.sizeOf50
  v37:=Tryz.zeroValue50
  t46:=Tryz.underlying28
  a46:=Tryz.isAgg28
  z46:=Tryz.sizeOf28
  v46:=Tryz.zeroValue28
  t51:=Tryz.underlying204
  a51:=Tryz.isAgg204
  z51:=Tryz.sizeOf204
  v51:=Tryz.zeroValue204
  t53:=Tryz.underlying184
  a53:=Tryz.isAgg184
  z53:=Tryz.sizeOf184
  v53:=Tryz.zeroValue184
  t171:=Tryz.underlying183
  a171:=Tryz.isAgg183
  z171:=Tryz.sizeOf183
  v171:=Tryz.zeroValue183
  t173:=Tryz.underlying187
  a173:=Tryz.isAgg187
  z173:=Tryz.sizeOf187
  v173:=Tryz.zeroValue187
  t212:=Tryz.underlying203
  a212:=Tryz.isAgg203
  z212:=Tryz.sizeOf203
  v212:=Tryz.zeroValue203
  t213:=Tryz.underlying205
  a213:=Tryz.isAgg205
  z213:=Tryz.sizeOf205
  t232:=Tryz.underlying221
  a232:=Tryz.isAgg221
  z232:=Tryz.sizeOf221
  v232:=Tryz.zeroValue221
  t233:=Tryz.underlying222
  a233:=Tryz.isAgg222
  z233:=Tryz.sizeOf222
  v233:=Tryz.zeroValue222
  g17:=by kernel_rfl
  g18:=by kernel_rfl
  g19:=by kernel_rfl
  i0:=by kernel_rfl
  i2:=by kernel_rfl
  i3:=by kernel_rfl
  i4:=by kernel_rfl
  i5:=by kernel_rfl
  i9:=by kernel_rfl
  i20:=by kernel_rfl
  i37:=by kernel_rfl
  i46:=by kernel_rfl
  i51:=by kernel_rfl
  i53:=by kernel_rfl
  i171:=by kernel_rfl
  i173:=by kernel_rfl
  i212:=by kernel_rfl
  i232:=by kernel_rfl
  i233:=by kernel_rfl
  m17:=by kernel_rfl
  m18:=by kernel_rfl
  m19:=by kernel_rfl }
open Go.RowKit Go.Sort Go.Lib in
theorem Tryz.strconv_FormatInt_10 (n : Int) (h0 : -9223372036854775808≤n) (h1 : n≤9223372036854775807) (w : World) (htab : Lib.TabIs Tryz.prog w "internal/strconv.uint64pow10" .u64 Lib.pow10Tab) :
    Calls Tryz.prog 163 #[.int .i64 n,.int .i64 10] w fun e w'=>e = .returned (.string ⟨(Lib.itoa n).toArray⟩)∧∃ k os,w' = grow (w.drewN k) os:=Any.strconv_FormatInt_10 Tryz.laysM173 n h0 h1 w htab
def Tryz.laysC174_ren : Go.Shelf.Ren:=⟨fun | 174=>143 | 247=>160 | 245=>161 | 287=>170 | 279=>171 | 280=>172 | 281=>173 | 282=>174 | 321=>190 | 322=>191 | 316=>192 | 171=>63 | 205=>193 | 243=>84 | 246=>102 | 283=>130 | 284=>131 | 285=>132 | 286=>133 | 129=>153 | 317=>152 | 318=>154 | 319=>155 | 320=>156 | 337=>165 | 338=>166 | n=>n,fun | 9=>9 | 3=>3 | 2=>2 | 75=>196 | 85=>197 | 4=>4 | 167=>214 | 5=>5 | 53=>184 | 175=>215 | 46=>28 | 168=>217 | 37=>50 | 0=>0 | 210=>236 | 21=>21 | 127=>246 | 145=>249 | 143=>247 | 171=>183 | 173=>187 | 212=>203 | 51=>204 | 20=>20 | 213=>205 | 232=>221 | 233=>222 | 80=>165 | n=>n,fun | 15=>5 | 16=>6 | 17=>0 | 18=>2 | 19=>3 | n=>n⟩
theorem Tryz.laysC174 : Go.Proofs.LaysC.n174 Tryz.prog Tryz.laysC174_ren:={
  mixed:=by kernel_rfl
  f129:=Tryz.func153.trans (congrArg some (by kernel_rfl))
  f171:=Tryz.func63.trans (congrArg some (by kernel_rfl))
  f174:=Tryz.func143.trans (congrArg some (by kernel_rfl))
  f205:=Tryz.func193.trans (congrArg some (by kernel_rfl))
  f243:=Tryz.func84.trans (congrArg some (by kernel_rfl))
  f245:=Tryz.func161.trans (congrArg some (by kernel_rfl))
  f246:=Tryz.func102.trans (congrArg some (by kernel_rfl))
  f247:=Tryz.func160.trans (congrArg some (by kernel_rfl))
  f279:=Tryz.func171.trans (congrArg some (by kernel_rfl))
  f280:=Tryz.func172.trans (congrArg some (by kernel_rfl))
  f281:=Tryz.func173.trans (congrArg some (by kernel_rfl))
  f282:=Tryz.func174.trans (congrArg some (by kernel_rfl))
  f283:=Tryz.func130.trans (congrArg some (by kernel_rfl))
  f284:=Tryz.func131.trans (congrArg some (by kernel_rfl))
  f285:=Tryz.func132.trans (congrArg some (by kernel_rfl))
  f286:=Tryz.func133.trans (congrArg some (by kernel_rfl))
  f287:=Tryz.func170.trans (congrArg some (by kernel_rfl))
  f316:=Tryz.func192.trans (congrArg some (by kernel_rfl))
  f317:=Tryz.func152.trans (congrArg some (by kernel_rfl))
  f318:=Tryz.func154.trans (congrArg some (by kernel_rfl))
  f319:=Tryz.func155.trans (congrArg some (by kernel_rfl))
  f320:=Tryz.func156.trans (congrArg some (by kernel_rfl))
  f321:=Tryz.func190.trans (congrArg some (by kernel_rfl))
  f322:=Tryz.func191.trans (congrArg some (by kernel_rfl))
  f337:=Tryz.func165.trans (congrArg some (by kernel_rfl))
  f338:=Tryz.func166.trans (congrArg some (by kernel_rfl))
  t0:=Tryz.underlying0
  a0:=Tryz.isAgg0
  z0:=Tryz.sizeOf0
  v0:=Tryz.zeroValue0
  t2:=Tryz.underlying2
  a2:=Tryz.isAgg2
  z2:=Tryz.sizeOf2
  v2:=Tryz.zeroValue2
  t3:=Tryz.underlying3
  a3:=Tryz.isAgg3
  z3:=Tryz.sizeOf3
  v3:=Tryz.zeroValue3
  t4:=Tryz.underlying4
  a4:=Tryz.isAgg4
  z4:=Tryz.sizeOf4
  v4:=Tryz.zeroValue4
  t5:=Tryz.underlying5
  a5:=Tryz.isAgg5
  z5:=Tryz.sizeOf5
  v5:=Tryz.zeroValue5
  t9:=Tryz.underlying9
  a9:=Tryz.isAgg9
  z9:=Tryz.sizeOf9
  v9:=Tryz.zeroValue9
  t20:=Tryz.underlying20
  a20:=Tryz.isAgg20
  z20:=Tryz.sizeOf20
  v20:=Tryz.zeroValue20
  t21:=Tryz.underlying21
  a21:=Tryz.isAgg21
  z21:=Tryz.sizeOf21
  v21:=Tryz.zeroValue21
  t37:=Tryz.underlying50
  a37:=Tryz.isAgg50
  z37:=Tryz.sizeOf50
  v37:=Tryz.zeroValue50
  t46:=Tryz.underlying28
  a46:=Tryz.isAgg28
  z46:=Tryz.sizeOf28
  v46:=Tryz.zeroValue28
  t51:=Tryz.underlying204
  a51:=Tryz.isAgg204
  z51:=Tryz.sizeOf204
  v51:=Tryz.zeroValue204
  t53:=Tryz.underlying184
  a53:=Tryz.isAgg184
  z53:=Tryz.sizeOf184
  v53:=Tryz.zeroValue184
  t75:=Tryz.underlying196
  a75:=Tryz.isAgg196
  z75:=Tryz.sizeOf196
  v75:=Tryz.zeroValue196
  t85:=Tryz.underlying197
  a85:=Tryz.isAgg197
  z85:=Tryz.sizeOf197
  v85:=Tryz.zeroValue197
  t127:=Tryz.underlying246
  a127:=Tryz.isAgg246
  z127:=Tryz.sizeOf246
  v127:=Tryz.zeroValue246
  t143:=Tryz.underlying247
  a143:=Tryz.isAgg247
  z143:=Tryz.sizeOf247
  v143:=Tryz.zeroValue247
  t145:=Tryz.underlying249
  a145:=Tryz.isAgg249
  z145:=Tryz.sizeOf249
  v145:=Tryz.zeroValue249
  t167:=Tryz.underlying214
  a167:=Tryz.isAgg214
  z167:=Tryz.sizeOf214
  v167:=Tryz.zeroValue214
  t168:=Tryz.underlying217
  a168:=Tryz.isAgg217
  z168:=Tryz.sizeOf217
  v168:=Tryz.zeroValue217
  t171:=Tryz.underlying183
  a171:=Tryz.isAgg183
  z171:=Tryz.sizeOf183
  v171:=Tryz.zeroValue183
  t173:=Tryz.underlying187
  a173:=Tryz.isAgg187
  z173:=Tryz.sizeOf187
  v173:=Tryz.zeroValue187
  t175:=Tryz.underlying215
  a175:=Tryz.isAgg215
  z175:=Tryz.sizeOf215
  v175:=Tryz.zeroValue215
  t210:=Tryz.underlying236
  a210:=Tryz.isAgg236
  z210:=Tryz.sizeOf236
  v210:=Tryz.zeroValue236
  t212:=Tryz.underlying203
  a212:=Tryz.isAgg203
  z212:=Tryz.sizeOf203
  v212:=Tryz.zeroValue203
  t213:=Tryz.underlying205
  a213:=Tryz.isAgg205
  z213:=Tryz.sizeOf205
  t232:=Tryz.underlying221
  a232:=Tryz.isAgg221
  z232:=Tryz.sizeOf221
  v232:=Tryz.zeroValue221
  t233:=Tryz.underlying222
  a233:=Tryz.isAgg222
  z233:=Tryz.sizeOf222
  v233:=Tryz.zeroValue222
  g15:=by kernel_rfl
  g16:=by kernel_rfl
  g17:=by kernel_rfl
  g18:=by kernel_rfl
  g19:=by kernel_rfl
  t80:=Tryz.underlying165
  a80:=Tryz.isAgg165
  z80:=Tryz.sizeOf165
  v80:=Tryz.zeroValue165
  i0:=by kernel_rfl
  i2:=by kernel_rfl
  i3:=by kernel_rfl
  i4:=by kernel_rfl
  i5:=by kernel_rfl
  i9:=by kernel_rfl
  i20:=by kernel_rfl
  i21:=by kernel_rfl
  i37:=by kernel_rfl
  i46:=by kernel_rfl
  i51:=by kernel_rfl
  i53:=by kernel_rfl
  i75:=by kernel_rfl
  i80:=by kernel_rfl
  i85:=by kernel_rfl
  i127:=by kernel_rfl
  i143:=by kernel_rfl
  i145:=by kernel_rfl
  i167:=by kernel_rfl
  i168:=by kernel_rfl
  i171:=by kernel_rfl
  i173:=by kernel_rfl
  i175:=by kernel_rfl
  i210:=by kernel_rfl
  i212:=by kernel_rfl
  i232:=by kernel_rfl
  i233:=by kernel_rfl
  m15:=by kernel_rfl
  m16:=by kernel_rfl
  m17:=by kernel_rfl
  m18:=by kernel_rfl
  m19:=by kernel_rfl
  c0:=by kernel_rfl
  c2:=by kernel_rfl
  c3:=by kernel_rfl
  c4:=by kernel_rfl
  c5:=by kernel_rfl
  c9:=by kernel_rfl
  c20:=by kernel_rfl
  c21:=by kernel_rfl
  c37:=by kernel_rfl
  c46:=by kernel_rfl
  c51:=by kernel_rfl
  c53:=by kernel_rfl
  c75:=by kernel_rfl
  c80:=by kernel_rfl
  c85:=by kernel_rfl
  c127:=by kernel_rfl
  c143:=by kernel_rfl
  c145:=by kernel_rfl
  c167:=by kernel_rfl
  c168:=by kernel_rfl
  c171:=by kernel_rfl
  c173:=by kernel_rfl
  c175:=by kernel_rfl
  c210:=by kernel_rfl
  c212:=by kernel_rfl
  c213:=by kernel_rfl
  c232:=by kernel_rfl
  c233:=by kernel_rfl }
open Go.RowKit in
theorem Tryz.strconv_ParseInt_10_at64_ok (s : ByteArray) (hmax : s.size≤9223372036854775806) (v : Int) (h : Lib.parseIntB 64 s.data.toList = .ok v) (w : World) :
    Calls Tryz.prog 143 #[.string s,.int .i64 10,.int .i64 64] w fun e w'=>e = .returned (.tuple #[.int .i64 v,.nilIface])∧(w' = w∨∃ t,w' = Lib.bytesWorld w 5 t):=Any.strconv_ParseInt_10_at64_ok Tryz.laysC174 s hmax v h w
open Go.RowKit in
theorem Tryz.strconv_ParseInt_10_at64_range_var (s : ByteArray) (hlim : s.size≤281474976710656) (h : Lib.parseIntB 64 s.data.toList = .range) (tp : TypeId) (p : Value) (w : World) (hvar : w.var? Tryz.prog "strconv.ErrRange" = some #[.iface tp p]) :
    Calls Tryz.prog 143 #[.string s,.int .i64 10,.int .i64 64] w fun e w'=>∃ N,e = .returned (.tuple #[.int .i64 (Lib.intSat 64 s.data.toList),.iface 217 (.pointer (some ⟨N,0,none⟩))])∧w.heap.size≤N∧w'.heap[N]? = some (.cells #[.string ⟨#[80,97,114,115,101,73,110,116]⟩,.string s,.iface tp p] 236 (0,0))∧Below w.heap.size w w':=Any.strconv_ParseInt_10_at64_range_var Tryz.laysC174 s hlim h tp p w hvar
def Tryz.lays219_ren : Go.Shelf.Ren:=⟨fun | 219=>169 | 217=>186 | 225=>187 | 224=>188 | 267=>189 | 266=>200 | 314=>201 | n=>n,fun | 9=>9 | 3=>3 | 4=>4 | 5=>5 | 46=>28 | 146=>244 | 51=>204 | n=>n,fun | 1=>4 | n=>n⟩
theorem Tryz.lays219 : Go.Proofs.Lays.n219 Tryz.prog Tryz.lays219_ren:={
  mixed:=by kernel_rfl
  f217:=Tryz.func186.trans (congrArg some (by kernel_rfl))
  f219:=Tryz.func169.trans (congrArg some (by kernel_rfl))
  f224:=Tryz.func188.trans (congrArg some (by kernel_rfl))
  f225:=Tryz.func187.trans (congrArg some (by kernel_rfl))
  f266:=Tryz.func200.trans (congrArg some (by kernel_rfl))
  f267:=Tryz.func189.trans (congrArg some (by kernel_rfl))
  f314:=Tryz.func201.trans (congrArg some (by kernel_rfl))
  t3:=Tryz.underlying3
  a3:=Tryz.isAgg3
  z3:=Tryz.sizeOf3
  v3:=Tryz.zeroValue3
  t4:=Tryz.underlying4
  a4:=Tryz.isAgg4
  z4:=Tryz.sizeOf4
  v4:=Tryz.zeroValue4
  t5:=Tryz.underlying5
  a5:=Tryz.isAgg5
  z5:=Tryz.sizeOf5
  v5:=Tryz.zeroValue5
  t9:=Tryz.underlying9
  a9:=Tryz.isAgg9
  z9:=Tryz.sizeOf9
  v9:=Tryz.zeroValue9
  t46:=Tryz.underlying28
  a46:=Tryz.isAgg28
  z46:=Tryz.sizeOf28
  v46:=Tryz.zeroValue28
  t51:=Tryz.underlying204
  a51:=Tryz.isAgg204
  z51:=Tryz.sizeOf204
  v51:=Tryz.zeroValue204
  t146:=Tryz.underlying244
  a146:=Tryz.isAgg244
  z146:=Tryz.sizeOf244
  v146:=Tryz.zeroValue244
  g1:=by kernel_rfl }
open Go.RowKit Go.Lib in
theorem Tryz.stringslite_Index_one (s : ByteArray) (c : UInt8) (w : World) :
    Calls Tryz.prog 169 #[.string s,.string ⟨#[c]⟩] w fun e w'=>e = .returned (.int .i64 (Lib.indexByte s.data.toList c))∧w' = w:=Any.stringslite_Index_one Tryz.lays219 s c w
def Tryz.lays189_ren : Go.Shelf.Ren:=⟨fun | 189=>158 | 125=>168 | 257=>167 | 128=>185 | 129=>153 | 294=>176 | 295=>177 | 296=>178 | 297=>179 | 298=>180 | 299=>181 | 216=>182 | 300=>183 | 301=>184 | 328=>194 | 329=>195 | 330=>196 | 331=>197 | 332=>198 | 215=>199 | 343=>202 | n=>n,fun | 28=>42 | 3=>3 | 46=>28 | 0=>0 | 51=>204 | 53=>184 | 4=>4 | 183=>225 | 182=>224 | 131=>230 | 5=>5 | 9=>9 | 218=>238 | 222=>242 | 228=>250 | 229=>251 | n=>n,fun | n=>n⟩
theorem Tryz.lays189 : Go.Proofs.Lays.n189 Tryz.prog Tryz.lays189_ren:={
  mixed:=by kernel_rfl
  f125:=Tryz.func168.trans (congrArg some (by kernel_rfl))
  f128:=Tryz.func185.trans (congrArg some (by kernel_rfl))
  f129:=Tryz.func153.trans (congrArg some (by kernel_rfl))
  f189:=Tryz.func158.trans (congrArg some (by kernel_rfl))
  f215:=Tryz.func199.trans (congrArg some (by kernel_rfl))
  f216:=Tryz.func182.trans (congrArg some (by kernel_rfl))
  f257:=Tryz.func167.trans (congrArg some (by kernel_rfl))
  f294:=Tryz.func176.trans (congrArg some (by kernel_rfl))
  f295:=Tryz.func177.trans (congrArg some (by kernel_rfl))
  f296:=Tryz.func178.trans (congrArg some (by kernel_rfl))
  f297:=Tryz.func179.trans (congrArg some (by kernel_rfl))
  f298:=Tryz.func180.trans (congrArg some (by kernel_rfl))
  f299:=Tryz.func181.trans (congrArg some (by kernel_rfl))
  f300:=Tryz.func183.trans (congrArg some (by kernel_rfl))
  f301:=Tryz.func184.trans (congrArg some (by kernel_rfl))
  f328:=Tryz.func194.trans (congrArg some (by kernel_rfl))
  f329:=Tryz.func195.trans (congrArg some (by kernel_rfl))
  f330:=Tryz.func196.trans (congrArg some (by kernel_rfl))
  f331:=Tryz.func197.trans (congrArg some (by kernel_rfl))
  f332:=Tryz.func198.trans (congrArg some (by kernel_rfl))
  f343:=Tryz.func202.trans (congrArg some (by kernel_rfl))
  t0:=Tryz.underlying0
  a0:=Tryz.isAgg0
  z0:=Tryz.sizeOf0
  v0:=Tryz.zeroValue0
  t3:=Tryz.underlying3
  a3:=Tryz.isAgg3
  z3:=Tryz.sizeOf3
  v3:=Tryz.zeroValue3
  t4:=Tryz.underlying4
  a4:=Tryz.isAgg4
  z4:=Tryz.sizeOf4
  v4:=Tryz.zeroValue4
  t5:=Tryz.underlying5
  a5:=Tryz.isAgg5
  z5:=Tryz.sizeOf5
  v5:=Tryz.zeroValue5
  t9:=Tryz.underlying9
  a9:=Tryz.isAgg9
  z9:=Tryz.sizeOf9
  v9:=Tryz.zeroValue9
  t28:=Tryz.underlying42
  a28:=Tryz.isAgg42
  z28:=Tryz.sizeOf42
  v28:=Tryz.zeroValue42
  t46:=Tryz.underlying28
  a46:=Tryz.isAgg28
  z46:=Tryz.sizeOf28
  v46:=Tryz.zeroValue28
  t51:=Tryz.underlying204
  a51:=Tryz.isAgg204
  z51:=Tryz.sizeOf204
  v51:=Tryz.zeroValue204
  t53:=Tryz.underlying184
  a53:=Tryz.isAgg184
  z53:=Tryz.sizeOf184
  v53:=Tryz.zeroValue184
  t131:=Tryz.underlying230
  a131:=Tryz.isAgg230
  z131:=Tryz.sizeOf230
  v131:=Tryz.zeroValue230
  t182:=Tryz.underlying224
  a182:=Tryz.isAgg224
  z182:=Tryz.sizeOf224
  v182:=Tryz.zeroValue224
  t183:=Tryz.underlying225
  a183:=Tryz.isAgg225
  z183:=Tryz.sizeOf225
  v183:=Tryz.zeroValue225
  t218:=Tryz.underlying238
  a218:=Tryz.isAgg238
  z218:=Tryz.sizeOf238
  v218:=Tryz.zeroValue238
  t222:=Tryz.underlying242
  a222:=Tryz.isAgg242
  z222:=Tryz.sizeOf242
  v222:=Tryz.zeroValue242
  t228:=Tryz.underlying250
  a228:=Tryz.isAgg250
  z228:=Tryz.sizeOf250
  v228:=Tryz.zeroValue250
  t229:=Tryz.underlying251
  a229:=Tryz.isAgg251
  z229:=Tryz.sizeOf251
  v229:=Tryz.zeroValue251 }
open Go.Sort Go.RowKit in
theorem Tryz.slices_Sort_int (blk off cap : Nat) (zs : List Int) (w : World) (hH : Holds (Value.int .i64) w blk off zs.toArray) (hblk : blk < w.heap.size) (hsz : zs.length < 4611686018427387904) :
    Calls Tryz.prog 158 #[.slice (some ⟨blk,off,none⟩) zs.length cap] w fun e w' =>
      e = .returned (.tuple #[])∧∃ n os,w' = grow (putRow (Value.int .i64) (Sort.ahead w n) blk off (zs.mergeSort fun x y=>decide (x≤y)).toArray) os:=Any.slices_Sort_int Tryz.lays189 blk off cap zs w hH hblk hsz
def Tryz.lays107_ren : Go.Shelf.Ren:=⟨fun | 107=>164 | 108=>175 | n=>n,fun | 28=>42 | 3=>3 | 4=>4 | 0=>0 | n=>n,fun | n=>n⟩
theorem Tryz.lays107 : Go.Proofs.Lays.n107 Tryz.prog Tryz.lays107_ren:={
  mixed:=by kernel_rfl
  f107:=Tryz.func164.trans (congrArg some (by kernel_rfl))
  f108:=Tryz.func175.trans (congrArg some (by kernel_rfl))
  t0:=Tryz.underlying0
  a0:=Tryz.isAgg0
  z0:=Tryz.sizeOf0
  v0:=Tryz.zeroValue0
  t3:=Tryz.underlying3
  a3:=Tryz.isAgg3
  z3:=Tryz.sizeOf3
  v3:=Tryz.zeroValue3
  t4:=Tryz.underlying4
  a4:=Tryz.isAgg4
  z4:=Tryz.sizeOf4
  v4:=Tryz.zeroValue4
  t28:=Tryz.underlying42
  a28:=Tryz.isAgg42
  z28:=Tryz.sizeOf42
  v28:=Tryz.zeroValue42 }
open Go.Lib in
theorem Tryz.slices_Contains_int (b off n c : Nat) (zs : List Int) (x : Int) (w : World) (hz : n≤zs.length) (hbig : n≤9223372036854775807) (hc : ∀ j,j < zs.length→w.cell? ⟨b,off + j,none⟩ = some (.int .i64 (zs.getD j 0))) :
    Calls Tryz.prog 164 #[.slice (some ⟨b,off,none⟩) n c,.int .i64 x] w fun e w'=>e = .returned (.bool ((zs.take n).contains x))∧w' = w:=Any.slices_Contains_int Tryz.lays107 b off n c zs x w hz hbig hc
open Go.Lib in
theorem Tryz.slices_Contains_int_empty (a : Option Addr) (c : Nat) (x : Int) (w : World) :
    Calls Tryz.prog 164 #[.slice a 0 c,.int .i64 x] w fun e w'=>e = .returned (.bool false)∧w' = w:=Any.slices_Contains_int_empty Tryz.lays107 a c x w
open Go.RowKit Go.Sort in
theorem Tryz.slices_Sort_int_none (p : Option Addr) (cap : Nat) (w : World) :
    Calls Tryz.prog 158 #[.slice p 0 cap] w fun e w'=>e = .returned (.tuple #[])∧w' = w:=Any.slices_Sort_int_none Tryz.lays189 p cap w
def Tryz.laysSlH6_f151_ren : Go.Shelf.Ren:=⟨fun | 6=>151 | n=>n,fun | 22=>42 | 23=>3 | 25=>123 | 3=>3 | 0=>0 | 4=>4 | n=>n,fun | n=>n⟩
theorem Tryz.laysSlH6_f151 : Go.Proofs.SlLaysH.n6 Tryz.prog Tryz.laysSlH6_f151_ren:={
  mixed:=by kernel_rfl
  f6:=⟨Tryz.f151.name,by decide,Tryz.func151.trans (congrArg some (by kernel_rfl))⟩
  t0:=Tryz.underlying0
  a0:=Tryz.isAgg0
  z0:=Tryz.sizeOf0
  v0:=Tryz.zeroValue0
  t3:=Tryz.underlying3
  a3:=Tryz.isAgg3
  z3:=Tryz.sizeOf3
  v3:=Tryz.zeroValue3
  t4:=Tryz.underlying4
  a4:=Tryz.isAgg4
  z4:=Tryz.sizeOf4
  v4:=Tryz.zeroValue4
  t22:=Tryz.underlying42
  a22:=Tryz.isAgg42
  z22:=Tryz.sizeOf42
  v22:=Tryz.zeroValue42
  a23:=Tryz.isAgg3
  z23:=Tryz.sizeOf3
  t25:=Tryz.underlying123
  a25:=Tryz.isAgg123
  z25:=Tryz.sizeOf123
  v25:=Tryz.zeroValue123 }
open Go.RowKit Go.Lib in
theorem Tryz.slices_IndexFunc_empty {α : Type} [Inhabited α] (a : Option Addr) (c : Nat) (fv : Value) (w : World) :
    Calls Tryz.prog 151 #[.slice a 0 c,fv] w fun e w'=>e = .returned (.int .i64 (-1))∧w' = w:=AnyE.slices_IndexFunc_empty Tryz.laysSlH6_f151 a c fv w
def Tryz.laysSlH10_f128_ren : Go.Shelf.Ren:=⟨fun | 10=>128 | 6=>151 | n=>n,fun | 22=>42 | 23=>3 | 25=>123 | 3=>3 | 4=>4 | 0=>0 | n=>n,fun | n=>n⟩
theorem Tryz.laysSlH10_f128 : Go.Proofs.SlLaysH.n10 Tryz.prog Tryz.laysSlH10_f128_ren:={
  mixed:=by kernel_rfl
  f6:=⟨Tryz.f151.name,by decide,Tryz.func151.trans (congrArg some (by kernel_rfl))⟩
  f10:=⟨Tryz.f128.name,by decide,Tryz.func128.trans (congrArg some (by kernel_rfl))⟩
  t0:=Tryz.underlying0
  a0:=Tryz.isAgg0
  z0:=Tryz.sizeOf0
  v0:=Tryz.zeroValue0
  t3:=Tryz.underlying3
  a3:=Tryz.isAgg3
  z3:=Tryz.sizeOf3
  v3:=Tryz.zeroValue3
  t4:=Tryz.underlying4
  a4:=Tryz.isAgg4
  z4:=Tryz.sizeOf4
  v4:=Tryz.zeroValue4
  t22:=Tryz.underlying42
  a22:=Tryz.isAgg42
  z22:=Tryz.sizeOf42
  v22:=Tryz.zeroValue42
  a23:=Tryz.isAgg3
  z23:=Tryz.sizeOf3
  t25:=Tryz.underlying123
  a25:=Tryz.isAgg123
  z25:=Tryz.sizeOf123
  v25:=Tryz.zeroValue123 }
open Go.RowKit Go.Lib Go.Sort in
theorem Tryz.slices_DeleteFunc {α : Type} [Inhabited α] (enc : α→Value) (hO : OneCell enc) (p : α→Bool) (g : Nat) (lb : Array Value) (eg : ∀ args w,(callFunc g args).run Tryz.prog w = .ok (.enter g args) w) (zr : α) (v23 : ∀ w,(zeroValue 3).run Tryz.prog w = .ok (enc zr) w) (blk off cap : Nat) (d : Array α) (w : World) (hp : PredAt Tryz.prog g lb enc p w) (hpo : PredOver Tryz.prog g lb enc p blk off d.size w) (hH : Holds enc w blk off d) (hsz : d.size≤9223372036854775807) (hcap : d.size≤cap) :
    Calls Tryz.prog 128 #[.slice (some ⟨blk,off,none⟩) d.size cap,.func (.func g) #[] lb] w fun e w'=>e = .returned (.slice (some ⟨blk,off,none⟩) (d.toList.filter fun x=>!p x).length cap)∧∃ q,w' = putRow enc (Sort.ahead w q) blk off ((d.toList.filter fun x=>!p x) ++ List.replicate (d.size - (d.toList.filter fun x=>!p x).length) zr).toArray:=AnyE.slices_DeleteFunc Tryz.laysSlH10_f128 enc hO p g lb eg zr v23 blk off cap d w hp hpo hH hsz hcap
end Go.Proofs
end
