/- PShelf -/
import Derived.Shelf.Small.Bits
import Derived.Shelf.Strconv.Itoa0
import Derived.Shelf.Strconv.Itoa1
import Derived.Shelf.LaysM
import Derived.Shelf.Strconv.Itoa2
import Derived.Shelf.Strconv.Itoa3
import Derived.Shelf.Strconv.Itoa4
import Derived.Shelf.Strconv.ParseIntEmpty
import Derived.Shelf.Strconv.Clone
import Derived.Shelf.Strconv.SyntaxError
import Derived.Shelf.LaysC
import Derived.Shelf.Strconv.ToError
import Derived.Shelf.Strconv.Lower
import Derived.Shelf.Strconv.ParseUint10
import Derived.Shelf.Strconv.ParseUint10Empty
import Derived.Shelf.Strconv.ParseUint10Any
import Derived.Shelf.Strconv.ParseInt10
import Derived.Shelf.Strconv.RangeError
import Derived.Shelf.Strconv.ToErrorRange
import Derived.Shelf.Strconv.ParseUintEmpty
import Derived.Shelf.Strconv.ParseUint10b64
import Derived.Shelf.Strconv.ParseUint10b32
import Derived.Shelf.Strconv.ParseUint10b16
import Derived.Shelf.Strconv.ParseUint10b8
import Derived.Shelf.Strconv.ParseUint10At
import Derived.Shelf.Strconv.ParseInt10At64
import Derived.Shelf.Strconv.ParseInt10At32
import Derived.Shelf.Strconv.ParseInt10At16
import Derived.Shelf.Strconv.ParseInt10At8
import Derived.Shelf.Strconv.ParseInt10All
import Derived.Shelf.Strconv.ParseIntPublic10
import Derived.Shelf.Strconv.ErrVarParseInt
import Derived.Shelf.Strings.Search1
import Derived.Shelf.Strings.Search2
import Derived.Shelf.Strings.Cut
import Derived.Shelf.Strings.Shaped
import Derived.Shelf.Sort.Plain
import Derived.Shelf.Slices.Turned
import Derived.Shelf.Slices.In.SortNone
import Derived.Ground.SlgfProg
import Derived.Shelf.SlicesE.IndexFunc
import Derived.Shelf.SlicesE.DeleteFunc
import Derived.Test.YthkbgopimgnbgaaGreatDoorProg

section
namespace Go.Proofs
open Go.Shelf
def Tryz.lays171_ren : Go.Shelf.Ren:=⟨fun | 171=>80 | 243=>99 | 246=>101 | 283=>113 | 284=>114 | 285=>115 | 286=>116 | 129=>138 | 317=>137 | 318=>139 | 319=>140 | 320=>141 | 337=>159 | 338=>160 | n=>n,fun | 3=>3 | 9=>9 | 2=>2 | 4=>4 | 171=>174 | 0=>0 | 53=>175 | 37=>33 | 5=>5 | 173=>178 | 212=>196 | 51=>197 | 20=>20 | 213=>198 | 46=>151 | 232=>217 | 233=>218 | n=>n,fun | 17=>0 | 18=>2 | 19=>3 | n=>n⟩
theorem Tryz.lays171 : Go.Proofs.Lays.n171 Tryz.prog Tryz.lays171_ren:={
  mixed:=by kernel_rfl
  f129:=Tryz.func138.trans (congrArg some (by kernel_rfl))
  f171:=Tryz.func80.trans (congrArg some (by kernel_rfl))
  f243:=Tryz.func99.trans (congrArg some (by kernel_rfl))
  f246:=Tryz.func101.trans (congrArg some (by kernel_rfl))
  f283:=Tryz.func113.trans (congrArg some (by kernel_rfl))
  f284:=Tryz.func114.trans (congrArg some (by kernel_rfl))
  f285:=Tryz.func115.trans (congrArg some (by kernel_rfl))
  f286:=Tryz.func116.trans (congrArg some (by kernel_rfl))
  f317:=Tryz.func137.trans (congrArg some (by kernel_rfl))
  f318:=Tryz.func139.trans (congrArg some (by kernel_rfl))
  f319:=Tryz.func140.trans (congrArg some (by kernel_rfl))
  f320:=Tryz.func141.trans (congrArg some (by kernel_rfl))
  f337:=Tryz.func159.trans (congrArg some (by kernel_rfl))
  f338:=Tryz.func160.trans (congrArg some (by kernel_rfl))
  t0:=Tryz.underlying0
  a0:=Tryz.isAgg0
  z0:=Tryz.sizeOf0
  v0:=Tryz.zeroValue0
  t2:=Tryz.underlying2
  a2:=Tryz.isAgg2
  z2:=Tryz.sizeOf2
  v2:=Tryz.zeroValue2
  t3:=Tryz.underlying3
  a3:=Tryz.isAgg3
  z3:=Tryz.sizeOf3
  v3:=Tryz.zeroValue3
  t4:=Tryz.underlying4
  a4:=Tryz.isAgg4
  z4:=Tryz.sizeOf4
  v4:=Tryz.zeroValue4
  t5:=Tryz.underlying5
  a5:=Tryz.isAgg5
  z5:=Tryz.sizeOf5
  v5:=Tryz.zeroValue5
  t9:=Tryz.underlying9
  a9:=Tryz.isAgg9
  z9:=Tryz.sizeOf9
  v9:=Tryz.zeroValue9
  t20:=Tryz.underlying20
  a20:=Tryz.isAgg20
  z20:=Tryz.sizeOf20
  v20:=Tryz.zeroValue20
  t37:=Tryz.underlying33
  a37:=Tryz.isAgg33
  z37:=Tryz.sizeOf33
  v37:=Tryz.zeroValue33
  t46:=Tryz.underlying151
  a46:=Tryz.isAgg151
  z46:=Tryz.sizeOf151
  v46:=Tryz.zeroValue151
  t51:=Tryz.underlying197
  a51:=Tryz.isAgg197
  z51:=Tryz.sizeOf197
  v51:=Tryz.zeroValue197
  t53:=Tryz.underlying175
  a53:=Tryz.isAgg175
  z53:=Tryz.sizeOf175
  v53:=Tryz.zeroValue175
  t171:=Tryz.underlying174
  a171:=Tryz.isAgg174
  z171:=Tryz.sizeOf174
  v171:=Tryz.zeroValue174
  t173:=Tryz.underlying178
  a173:=Tryz.isAgg178
  z173:=Tryz.sizeOf178
  v173:=Tryz.zeroValue178
  t212:=Tryz.underlying196
  a212:=Tryz.isAgg196
  z212:=Tryz.sizeOf196
  v212:=Tryz.zeroValue196
  t213:=Tryz.underlying198
  a213:=Tryz.isAgg198
  z213:=Tryz.sizeOf198
  t232:=Tryz.underlying217
  a232:=Tryz.isAgg217
  z232:=Tryz.sizeOf217
  v232:=Tryz.zeroValue217
  t233:=Tryz.underlying218
  a233:=Tryz.isAgg218
  z233:=Tryz.sizeOf218
  v233:=Tryz.zeroValue218
  g17:=by kernel_rfl
  g18:=by kernel_rfl
  g19:=by kernel_rfl }
open Go.RowKit Go.Sort Go.Lib in
theorem Tryz.strconv_Itoa_small (i : Nat) (hi : i < 100) (w : World) :
    Calls Tryz.prog 80 #[.int .i64 i] w fun e w'=>e = .returned (.string ⟨(Lib.decDigits i).toArray⟩)∧w' = w:=Any.strconv_Itoa_small Tryz.lays171 i hi w
def Tryz.laysM173_ren : Go.Shelf.Ren:=⟨fun | 173=>83 | 246=>101 | 283=>113 | 284=>114 | 285=>115 | 286=>116 | 129=>138 | 317=>137 | 318=>139 | 319=>140 | 320=>141 | 337=>159 | 338=>160 | n=>n,fun | 2=>2 | 3=>3 | 9=>9 | 4=>4 | 171=>174 | 0=>0 | 53=>175 | 37=>33 | 5=>5 | 173=>178 | 212=>196 | 51=>197 | 20=>20 | 213=>198 | 46=>151 | 232=>217 | 233=>218 | n=>n,fun | 17=>0 | 18=>2 | 19=>3 | n=>n⟩
theorem Tryz.laysM173 : Go.Proofs.LaysM.n173 Tryz.prog Tryz.laysM173_ren:={
  mixed:=by kernel_rfl
  f129:=Tryz.func138.trans (congrArg some (by kernel_rfl))
  f173:=Tryz.func83.trans (congrArg some (by kernel_rfl))
  f246:=Tryz.func101.trans (congrArg some (by kernel_rfl))
  f283:=Tryz.func113.trans (congrArg some (by kernel_rfl))
  f284:=Tryz.func114.trans (congrArg some (by kernel_rfl))
  f285:=Tryz.func115.trans (congrArg some (by kernel_rfl))
  f286:=Tryz.func116.trans (congrArg some (by kernel_rfl))
  f317:=Tryz.func137.trans (congrArg some (by kernel_rfl))
  f318:=Tryz.func139.trans (congrArg some (by kernel_rfl))
  f319:=Tryz.func140.trans (congrArg some (by kernel_rfl))
  f320:=Tryz.func141.trans (congrArg some (by kernel_rfl))
  f337:=Tryz.func159.trans (congrArg some (by kernel_rfl))
  f338:=Tryz.func160.trans (congrArg some (by kernel_rfl))
  t0:=Tryz.underlying0
  a0:=Tryz.isAgg0
  z0:=Tryz.sizeOf0
  v0:=Tryz.zeroValue0
  t2:=Tryz.underlying2
  a2:=Tryz.isAgg2
  z2:=Tryz.sizeOf2
  v2:=Tryz.zeroValue2
  t3:=Tryz.underlying3
  a3:=Tryz.isAgg3
  z3:=Tryz.sizeOf3
  v3:=Tryz.zeroValue3
  t4:=Tryz.underlying4
  a4:=Tryz.isAgg4
  z4:=Tryz.sizeOf4
  v4:=Tryz.zeroValue4
  t5:=Tryz.underlying5
  a5:=Tryz.isAgg5
  z5:=Tryz.sizeOf5
  v5:=Tryz.zeroValue5
  t9:=Tryz.underlying9
  a9:=Tryz.isAgg9
  z9:=Tryz.sizeOf9
  v9:=Tryz.zeroValue9
  t20:=Tryz.underlying20
  a20:=Tryz.isAgg20
  z20:=Tryz.sizeOf20
  v20:=Tryz.zeroValue20
  t37:=Tryz.underlying33
  a37:=Tryz.isAgg33
  z37:=Tryz.sizeOf33
  v37:=Tryz.zeroValue33
  t46:=Tryz.underlying151
  a46:=Tryz.isAgg151
  z46:=Tryz.sizeOf151
  v46:=Tryz.zeroValue151
  t51:=Tryz.underlying197
  a51:=Tryz.isAgg197
  z51:=Tryz.sizeOf197
  v51:=Tryz.zeroValue197
  t53:=Tryz.underlying175
  a53:=Tryz.isAgg175
  z53:=Tryz.sizeOf175
  v53:=Tryz.zeroValue175
  t171:=Tryz.underlying174
  a171:=Tryz.isAgg174
  z171:=Tryz.sizeOf174
  v171:=Tryz.zeroValue174
  t173:=Tryz.underlying178
  a173:=Tryz.isAgg178
  z173:=Tryz.sizeOf178
  v173:=Tryz.zeroValue178
  t212:=Tryz.underlying196
  a212:=Tryz.isAgg196
  z212:=Tryz.sizeOf196
  v212:=Tryz.zeroValue196
  t213:=Tryz.underlying198
  a213:=Tryz.isAgg198
  z213:=Tryz.sizeOf198
  t232:=Tryz.underlying217
  a232:=Tryz.isAgg217
  z232:=Tryz.sizeOf217
  v232:=Tryz.zeroValue217
  t233:=Tryz.underlying218
  a233:=Tryz.isAgg218
  z233:=Tryz.sizeOf218
  v233:=Tryz.zeroValue218
  g17:=by kernel_rfl
  g18:=by kernel_rfl
  g19:=by kernel_rfl
  i0:=by kernel_rfl
  i2:=by kernel_rfl
  i3:=by kernel_rfl
  i4:=by kernel_rfl
  i5:=by kernel_rfl
  i9:=by kernel_rfl
  i20:=by kernel_rfl
  i37:=by kernel_rfl
  i46:=by kernel_rfl
  i51:=by kernel_rfl
  i53:=by kernel_rfl
  i171:=by kernel_rfl
  i173:=by kernel_rfl
  i212:=by kernel_rfl
  i232:=by kernel_rfl
  i233:=by kernel_rfl
  m17:=by kernel_rfl
  m18:=by kernel_rfl
  m19:=by kernel_rfl }
open Go.RowKit Go.Sort Go.Lib in
theorem Tryz.strconv_FormatInt_10 (n : Int) (h0 : -9223372036854775808≤n) (h1 : n≤9223372036854775807) (w : World) (htab : Lib.TabIs Tryz.prog w "internal/strconv.uint64pow10" .u64 Lib.pow10Tab) :
    Calls Tryz.prog 83 #[.int .i64 n,.int .i64 10] w fun e w'=>e = .returned (.string ⟨(Lib.itoa n).toArray⟩)∧∃ k os,w' = grow (w.drewN k) os:=Any.strconv_FormatInt_10 Tryz.laysM173 n h0 h1 w htab
def Tryz.laysC174_ren : Go.Shelf.Ren:=⟨fun | 174=>150 | 247=>164 | 245=>165 | 287=>171 | 279=>172 | 280=>173 | 281=>174 | 282=>175 | 321=>191 | 322=>192 | 316=>193 | 171=>80 | 205=>194 | 243=>99 | 246=>101 | 283=>113 | 284=>114 | 285=>115 | 286=>116 | 129=>138 | 317=>137 | 318=>139 | 319=>140 | 320=>141 | 337=>159 | 338=>160 | n=>n,fun | 9=>9 | 3=>3 | 2=>2 | 75=>207 | 85=>208 | 4=>4 | 167=>221 | 5=>5 | 53=>175 | 175=>222 | 46=>151 | 168=>224 | 37=>33 | 0=>0 | 210=>241 | 21=>21 | 127=>251 | 145=>254 | 143=>252 | 171=>174 | 173=>178 | 212=>196 | 51=>197 | 20=>20 | 213=>198 | 232=>217 | 233=>218 | 80=>137 | n=>n,fun | 15=>5 | 16=>6 | 17=>0 | 18=>2 | 19=>3 | n=>n⟩
theorem Tryz.laysC174 : Go.Proofs.LaysC.n174 Tryz.prog Tryz.laysC174_ren:={
  mixed:=by kernel_rfl
  f129:=Tryz.func138.trans (congrArg some (by kernel_rfl))
  f171:=Tryz.func80.trans (congrArg some (by kernel_rfl))
  f174:=Tryz.func150.trans (congrArg some (by kernel_rfl))
  f205:=Tryz.func194.trans (congrArg some (by kernel_rfl))
  f243:=Tryz.func99.trans (congrArg some (by kernel_rfl))
  f245:=Tryz.func165.trans (congrArg some (by kernel_rfl))
  f246:=Tryz.func101.trans (congrArg some (by kernel_rfl))
  f247:=Tryz.func164.trans (congrArg some (by kernel_rfl))
  f279:=Tryz.func172.trans (congrArg some (by kernel_rfl))
  f280:=Tryz.func173.trans (congrArg some (by kernel_rfl))
  f281:=Tryz.func174.trans (congrArg some (by kernel_rfl))
  f282:=Tryz.func175.trans (congrArg some (by kernel_rfl))
  f283:=Tryz.func113.trans (congrArg some (by kernel_rfl))
  f284:=Tryz.func114.trans (congrArg some (by kernel_rfl))
  f285:=Tryz.func115.trans (congrArg some (by kernel_rfl))
  f286:=Tryz.func116.trans (congrArg some (by kernel_rfl))
  f287:=Tryz.func171.trans (congrArg some (by kernel_rfl))
  f316:=Tryz.func193.trans (congrArg some (by kernel_rfl))
  f317:=Tryz.func137.trans (congrArg some (by kernel_rfl))
  f318:=Tryz.func139.trans (congrArg some (by kernel_rfl))
  f319:=Tryz.func140.trans (congrArg some (by kernel_rfl))
  f320:=Tryz.func141.trans (congrArg some (by kernel_rfl))
  f321:=Tryz.func191.trans (congrArg some (by kernel_rfl))
  f322:=Tryz.func192.trans (congrArg some (by kernel_rfl))
  f337:=Tryz.func159.trans (congrArg some (by kernel_rfl))
  f338:=Tryz.func160.trans (congrArg some (by kernel_rfl))
  t0:=Tryz.underlying0
  a0:=Tryz.isAgg0
  z0:=Tryz.sizeOf0
  v0:=Tryz.zeroValue0
  t2:=Tryz.underlying2
  a2:=Tryz.isAgg2
  z2:=Tryz.sizeOf2
  v2:=Tryz.zeroValue2
  t3:=Tryz.underlying3
  a3:=Tryz.isAgg3
  z3:=Tryz.sizeOf3
  v3:=Tryz.zeroValue3
  t4:=Tryz.underlying4
  a4:=Tryz.isAgg4
  z4:=Tryz.sizeOf4
  v4:=Tryz.zeroValue4
  t5:=Tryz.underlying5
  a5:=Tryz.isAgg5
  z5:=Tryz.sizeOf5
  v5:=Tryz.zeroValue5
  t9:=Tryz.underlying9
  a9:=Tryz.isAgg9
  z9:=Tryz.sizeOf9
  v9:=Tryz.zeroValue9
  t20:=Tryz.underlying20
  a20:=Tryz.isAgg20
  z20:=Tryz.sizeOf20
  v20:=Tryz.zeroValue20
  t21:=Tryz.underlying21
  a21:=Tryz.isAgg21
  z21:=Tryz.sizeOf21
  v21:=Tryz.zeroValue21
  t37:=Tryz.underlying33
  a37:=Tryz.isAgg33
  z37:=Tryz.sizeOf33
  v37:=Tryz.zeroValue33
  t46:=Tryz.underlying151
  a46:=Tryz.isAgg151
  z46:=Tryz.sizeOf151
  v46:=Tryz.zeroValue151
  t51:=Tryz.underlying197
  a51:=Tryz.isAgg197
  z51:=Tryz.sizeOf197
  v51:=Tryz.zeroValue197
  t53:=Tryz.underlying175
  a53:=Tryz.isAgg175
  z53:=Tryz.sizeOf175
  v53:=Tryz.zeroValue175
  t75:=Tryz.underlying207
  a75:=Tryz.isAgg207
  z75:=Tryz.sizeOf207
  v75:=Tryz.zeroValue207
  t85:=Tryz.underlying208
  a85:=Tryz.isAgg208
  z85:=Tryz.sizeOf208
  v85:=Tryz.zeroValue208
  t127:=Tryz.underlying251
  a127:=Tryz.isAgg251
  z127:=Tryz.sizeOf251
  v127:=Tryz.zeroValue251
  t143:=Tryz.underlying252
  a143:=Tryz.isAgg252
  z143:=Tryz.sizeOf252
  v143:=Tryz.zeroValue252
  t145:=Tryz.underlying254
  a145:=Tryz.isAgg254
  z145:=Tryz.sizeOf254
  v145:=Tryz.zeroValue254
  t167:=Tryz.underlying221
  a167:=Tryz.isAgg221
  z167:=Tryz.sizeOf221
  v167:=Tryz.zeroValue221
  t168:=Tryz.underlying224
  a168:=Tryz.isAgg224
  z168:=Tryz.sizeOf224
  v168:=Tryz.zeroValue224
  t171:=Tryz.underlying174
  a171:=Tryz.isAgg174
  z171:=Tryz.sizeOf174
  v171:=Tryz.zeroValue174
  t173:=Tryz.underlying178
  a173:=Tryz.isAgg178
  z173:=Tryz.sizeOf178
  v173:=Tryz.zeroValue178
  t175:=Tryz.underlying222
  a175:=Tryz.isAgg222
  z175:=Tryz.sizeOf222
  v175:=Tryz.zeroValue222
  t210:=Tryz.underlying241
  a210:=Tryz.isAgg241
  z210:=Tryz.sizeOf241
  v210:=Tryz.zeroValue241
  t212:=Tryz.underlying196
  a212:=Tryz.isAgg196
  z212:=Tryz.sizeOf196
  v212:=Tryz.zeroValue196
  t213:=Tryz.underlying198
  a213:=Tryz.isAgg198
  z213:=Tryz.sizeOf198
  t232:=Tryz.underlying217
  a232:=Tryz.isAgg217
  z232:=Tryz.sizeOf217
  v232:=Tryz.zeroValue217
  t233:=Tryz.underlying218
  a233:=Tryz.isAgg218
  z233:=Tryz.sizeOf218
  v233:=Tryz.zeroValue218
  g15:=by kernel_rfl
  g16:=by kernel_rfl
  g17:=by kernel_rfl
  g18:=by kernel_rfl
  g19:=by kernel_rfl
  t80:=Tryz.underlying137
  a80:=Tryz.isAgg137
  z80:=Tryz.sizeOf137
  v80:=Tryz.zeroValue137
  i0:=by kernel_rfl
  i2:=by kernel_rfl
  i3:=by kernel_rfl
  i4:=by kernel_rfl
  i5:=by kernel_rfl
  i9:=by kernel_rfl
  i20:=by kernel_rfl
  i21:=by kernel_rfl
  i37:=by kernel_rfl
  i46:=by kernel_rfl
  i51:=by kernel_rfl
  i53:=by kernel_rfl
  i75:=by kernel_rfl
  i80:=by kernel_rfl
  i85:=by kernel_rfl
  i127:=by kernel_rfl
  i143:=by kernel_rfl
  i145:=by kernel_rfl
  i167:=by kernel_rfl
  i168:=by kernel_rfl
  i171:=by kernel_rfl
  i173:=by kernel_rfl
  i175:=by kernel_rfl
  i210:=by kernel_rfl
  i212:=by kernel_rfl
  i232:=by kernel_rfl
  i233:=by kernel_rfl
  m15:=by kernel_rfl
  m16:=by kernel_rfl
  m17:=by kernel_rfl
  m18:=by kernel_rfl
  m19:=by kernel_rfl
  c0:=by kernel_rfl
  c2:=by kernel_rfl
  c3:=by kernel_rfl
  c4:=by kernel_rfl
  c5:=by kernel_rfl
  c9:=by kernel_rfl
  c20:=by kernel_rfl
  c21:=by kernel_rfl
  c37:=by kernel_rfl
  c46:=by kernel_rfl
  c51:=by kernel_rfl
  c53:=by kernel_rfl
  c75:=by kernel_rfl
  c80:=by kernel_rfl
  c85:=by kernel_rfl
  c127:=by kernel_rfl
  c143:=by kernel_rfl
  c145:=by kernel_rfl
  c167:=by kernel_rfl
  c168:=by kernel_rfl
  c171:=by kernel_rfl
  c173:=by kernel_rfl
  c175:=by kernel_rfl
  c210:=by kernel_rfl
  c212:=by kernel_rfl
  c213:=by kernel_rfl
  c232:=by kernel_rfl
  c233:=by kernel_rfl }
open Go.RowKit in
theorem Tryz.strconv_ParseInt_10_at64_ok (s : ByteArray) (hmax : s.size≤9223372036854775806) (v : Int) (h : Lib.parseIntB 64 s.data.toList = .ok v) (w : World) :
    Calls Tryz.prog 150 #[.string s,.int .i64 10,.int .i64 64] w fun e w'=>e = .returned (.tuple #[.int .i64 v,.nilIface])∧(w' = w∨∃ t,w' = Lib.bytesWorld w 5 t):=Any.strconv_ParseInt_10_at64_ok Tryz.laysC174 s hmax v h w
open Go.RowKit in
theorem Tryz.strconv_ParseInt_10_at64_range_var (s : ByteArray) (hlim : s.size≤281474976710656) (h : Lib.parseIntB 64 s.data.toList = .range) (tp : TypeId) (p : Value) (w : World) (hvar : w.var? Tryz.prog "strconv.ErrRange" = some #[.iface tp p]) :
    Calls Tryz.prog 150 #[.string s,.int .i64 10,.int .i64 64] w fun e w'=>∃ N,e = .returned (.tuple #[.int .i64 (Lib.intSat 64 s.data.toList),.iface 224 (.pointer (some ⟨N,0,none⟩))])∧w.heap.size≤N∧w'.heap[N]? = some (.cells #[.string ⟨#[80,97,114,115,101,73,110,116]⟩,.string s,.iface tp p] 241 (0,0))∧Below w.heap.size w w':=Any.strconv_ParseInt_10_at64_range_var Tryz.laysC174 s hlim h tp p w hvar
def Tryz.lays219_ren : Go.Shelf.Ren:=⟨fun | 219=>170 | 217=>187 | 225=>188 | 224=>189 | 267=>190 | 266=>201 | 314=>202 | n=>n,fun | 9=>9 | 3=>3 | 4=>4 | 5=>5 | 46=>151 | 146=>249 | 51=>197 | n=>n,fun | 1=>4 | n=>n⟩
theorem Tryz.lays219 : Go.Proofs.Lays.n219 Tryz.prog Tryz.lays219_ren:={
  mixed:=by kernel_rfl
  f217:=Tryz.func187.trans (congrArg some (by kernel_rfl))
  f219:=Tryz.func170.trans (congrArg some (by kernel_rfl))
  f224:=Tryz.func189.trans (congrArg some (by kernel_rfl))
  f225:=Tryz.func188.trans (congrArg some (by kernel_rfl))
  f266:=Tryz.func201.trans (congrArg some (by kernel_rfl))
  f267:=Tryz.func190.trans (congrArg some (by kernel_rfl))
  f314:=Tryz.func202.trans (congrArg some (by kernel_rfl))
  t3:=Tryz.underlying3
  a3:=Tryz.isAgg3
  z3:=Tryz.sizeOf3
  v3:=Tryz.zeroValue3
  t4:=Tryz.underlying4
  a4:=Tryz.isAgg4
  z4:=Tryz.sizeOf4
  v4:=Tryz.zeroValue4
  t5:=Tryz.underlying5
  a5:=Tryz.isAgg5
  z5:=Tryz.sizeOf5
  v5:=Tryz.zeroValue5
  t9:=Tryz.underlying9
  a9:=Tryz.isAgg9
  z9:=Tryz.sizeOf9
  v9:=Tryz.zeroValue9
  t46:=Tryz.underlying151
  a46:=Tryz.isAgg151
  z46:=Tryz.sizeOf151
  v46:=Tryz.zeroValue151
  t51:=Tryz.underlying197
  a51:=Tryz.isAgg197
  z51:=Tryz.sizeOf197
  v51:=Tryz.zeroValue197
  t146:=Tryz.underlying249
  a146:=Tryz.isAgg249
  z146:=Tryz.sizeOf249
  v146:=Tryz.zeroValue249
  g1:=by kernel_rfl }
open Go.RowKit Go.Lib in
theorem Tryz.stringslite_Index_one (s : ByteArray) (c : UInt8) (w : World) :
    Calls Tryz.prog 170 #[.string s,.string ⟨#[c]⟩] w fun e w'=>e = .returned (.int .i64 (Lib.indexByte s.data.toList c))∧w' = w:=Any.stringslite_Index_one Tryz.lays219 s c w
def Tryz.lays189_ren : Go.Shelf.Ren:=⟨fun | 189=>162 | 125=>169 | 257=>168 | 128=>186 | 129=>138 | 294=>177 | 295=>178 | 296=>179 | 297=>180 | 298=>181 | 299=>182 | 216=>183 | 300=>184 | 301=>185 | 328=>195 | 329=>196 | 330=>197 | 331=>198 | 332=>199 | 215=>200 | 343=>203 | n=>n,fun | 28=>74 | 3=>3 | 46=>151 | 0=>0 | 51=>197 | 53=>175 | 4=>4 | 183=>230 | 182=>229 | 131=>235 | 5=>5 | 9=>9 | 218=>243 | 222=>247 | 228=>255 | 229=>256 | n=>n,fun | n=>n⟩
theorem Tryz.lays189 : Go.Proofs.Lays.n189 Tryz.prog Tryz.lays189_ren:={
  mixed:=by kernel_rfl
  f125:=Tryz.func169.trans (congrArg some (by kernel_rfl))
  f128:=Tryz.func186.trans (congrArg some (by kernel_rfl))
  f129:=Tryz.func138.trans (congrArg some (by kernel_rfl))
  f189:=Tryz.func162.trans (congrArg some (by kernel_rfl))
  f215:=Tryz.func200.trans (congrArg some (by kernel_rfl))
  f216:=Tryz.func183.trans (congrArg some (by kernel_rfl))
  f257:=Tryz.func168.trans (congrArg some (by kernel_rfl))
  f294:=Tryz.func177.trans (congrArg some (by kernel_rfl))
  f295:=Tryz.func178.trans (congrArg some (by kernel_rfl))
  f296:=Tryz.func179.trans (congrArg some (by kernel_rfl))
  f297:=Tryz.func180.trans (congrArg some (by kernel_rfl))
  f298:=Tryz.func181.trans (congrArg some (by kernel_rfl))
  f299:=Tryz.func182.trans (congrArg some (by kernel_rfl))
  f300:=Tryz.func184.trans (congrArg some (by kernel_rfl))
  f301:=Tryz.func185.trans (congrArg some (by kernel_rfl))
  f328:=Tryz.func195.trans (congrArg some (by kernel_rfl))
  f329:=Tryz.func196.trans (congrArg some (by kernel_rfl))
  f330:=Tryz.func197.trans (congrArg some (by kernel_rfl))
  f331:=Tryz.func198.trans (congrArg some (by kernel_rfl))
  f332:=Tryz.func199.trans (congrArg some (by kernel_rfl))
  f343:=Tryz.func203.trans (congrArg some (by kernel_rfl))
  t0:=Tryz.underlying0
  a0:=Tryz.isAgg0
  z0:=Tryz.sizeOf0
  v0:=Tryz.zeroValue0
  t3:=Tryz.underlying3
  a3:=Tryz.isAgg3
  z3:=Tryz.sizeOf3
  v3:=Tryz.zeroValue3
  t4:=Tryz.underlying4
  a4:=Tryz.isAgg4
  z4:=Tryz.sizeOf4
  v4:=Tryz.zeroValue4
  t5:=Tryz.underlying5
  a5:=Tryz.isAgg5
  z5:=Tryz.sizeOf5
  v5:=Tryz.zeroValue5
  t9:=Tryz.underlying9
  a9:=Tryz.isAgg9
  z9:=Tryz.sizeOf9
  v9:=Tryz.zeroValue9
  t28:=Tryz.underlying74
  a28:=Tryz.isAgg74
  z28:=Tryz.sizeOf74
  v28:=Tryz.zeroValue74
  t46:=Tryz.underlying151
  a46:=Tryz.isAgg151
  z46:=Tryz.sizeOf151
  v46:=Tryz.zeroValue151
  t51:=Tryz.underlying197
  a51:=Tryz.isAgg197
  z51:=Tryz.sizeOf197
  v51:=Tryz.zeroValue197
  t53:=Tryz.underlying175
  a53:=Tryz.isAgg175
  z53:=Tryz.sizeOf175
  v53:=Tryz.zeroValue175
  t131:=Tryz.underlying235
  a131:=Tryz.isAgg235
  z131:=Tryz.sizeOf235
  v131:=Tryz.zeroValue235
  t182:=Tryz.underlying229
  a182:=Tryz.isAgg229
  z182:=Tryz.sizeOf229
  v182:=Tryz.zeroValue229
  t183:=Tryz.underlying230
  a183:=Tryz.isAgg230
  z183:=Tryz.sizeOf230
  v183:=Tryz.zeroValue230
  t218:=Tryz.underlying243
  a218:=Tryz.isAgg243
  z218:=Tryz.sizeOf243
  v218:=Tryz.zeroValue243
  t222:=Tryz.underlying247
  a222:=Tryz.isAgg247
  z222:=Tryz.sizeOf247
  v222:=Tryz.zeroValue247
  t228:=Tryz.underlying255
  a228:=Tryz.isAgg255
  z228:=Tryz.sizeOf255
  v228:=Tryz.zeroValue255
  t229:=Tryz.underlying256
  a229:=Tryz.isAgg256
  z229:=Tryz.sizeOf256
  v229:=Tryz.zeroValue256 }
open Go.Sort Go.RowKit in
theorem Tryz.slices_Sort_int (blk off cap : Nat) (zs : List Int) (w : World) (hH : Holds (Value.int .i64) w blk off zs.toArray) (hblk : blk < w.heap.size) (hsz : zs.length < 4611686018427387904) :
    Calls Tryz.prog 162 #[.slice (some ⟨blk,off,none⟩) zs.length cap] w fun e w' =>
      e = .returned (.tuple #[])∧∃ n os,w' = grow (putRow (Value.int .i64) (Sort.ahead w n) blk off (zs.mergeSort fun x y=>decide (x≤y)).toArray) os:=Any.slices_Sort_int Tryz.lays189 blk off cap zs w hH hblk hsz
def Tryz.lays107_ren : Go.Shelf.Ren:=⟨fun | 107=>167 | 108=>176 | n=>n,fun | 28=>74 | 3=>3 | 4=>4 | 0=>0 | n=>n,fun | n=>n⟩
theorem Tryz.lays107 : Go.Proofs.Lays.n107 Tryz.prog Tryz.lays107_ren:={
  mixed:=by kernel_rfl
  f107:=Tryz.func167.trans (congrArg some (by kernel_rfl))
  f108:=Tryz.func176.trans (congrArg some (by kernel_rfl))
  t0:=Tryz.underlying0
  a0:=Tryz.isAgg0
  z0:=Tryz.sizeOf0
  v0:=Tryz.zeroValue0
  t3:=Tryz.underlying3
  a3:=Tryz.isAgg3
  z3:=Tryz.sizeOf3
  v3:=Tryz.zeroValue3
  t4:=Tryz.underlying4
  a4:=Tryz.isAgg4
  z4:=Tryz.sizeOf4
  v4:=Tryz.zeroValue4
  t28:=Tryz.underlying74
  a28:=Tryz.isAgg74
  z28:=Tryz.sizeOf74
  v28:=Tryz.zeroValue74 }
open Go.Lib in
theorem Tryz.slices_Contains_int (b off n c : Nat) (zs : List Int) (x : Int) (w : World) (hz : n≤zs.length) (hbig : n≤9223372036854775807) (hc : ∀ j,j < zs.length→w.cell? ⟨b,off + j,none⟩ = some (.int .i64 (zs.getD j 0))) :
    Calls Tryz.prog 167 #[.slice (some ⟨b,off,none⟩) n c,.int .i64 x] w fun e w'=>e = .returned (.bool ((zs.take n).contains x))∧w' = w:=Any.slices_Contains_int Tryz.lays107 b off n c zs x w hz hbig hc
open Go.Lib in
theorem Tryz.slices_Contains_int_empty (a : Option Addr) (c : Nat) (x : Int) (w : World) :
    Calls Tryz.prog 167 #[.slice a 0 c,.int .i64 x] w fun e w'=>e = .returned (.bool false)∧w' = w:=Any.slices_Contains_int_empty Tryz.lays107 a c x w
open Go.RowKit Go.Sort in
theorem Tryz.slices_Sort_int_none (p : Option Addr) (cap : Nat) (w : World) :
    Calls Tryz.prog 162 #[.slice p 0 cap] w fun e w'=>e = .returned (.tuple #[])∧w' = w:=Any.slices_Sort_int_none Tryz.lays189 p cap w
def Tryz.laysSlH6_f158_ren : Go.Shelf.Ren:=⟨fun | 6=>158 | n=>n,fun | 22=>74 | 23=>3 | 25=>148 | 3=>3 | 0=>0 | 4=>4 | n=>n,fun | n=>n⟩
theorem Tryz.laysSlH6_f158 : Go.Proofs.SlLaysH.n6 Tryz.prog Tryz.laysSlH6_f158_ren:={
  mixed:=by kernel_rfl
  f6:=⟨Tryz.f158.name,by decide,Tryz.func158.trans (congrArg some (by kernel_rfl))⟩
  t0:=Tryz.underlying0
  a0:=Tryz.isAgg0
  z0:=Tryz.sizeOf0
  v0:=Tryz.zeroValue0
  t3:=Tryz.underlying3
  a3:=Tryz.isAgg3
  z3:=Tryz.sizeOf3
  v3:=Tryz.zeroValue3
  t4:=Tryz.underlying4
  a4:=Tryz.isAgg4
  z4:=Tryz.sizeOf4
  v4:=Tryz.zeroValue4
  t22:=Tryz.underlying74
  a22:=Tryz.isAgg74
  z22:=Tryz.sizeOf74
  v22:=Tryz.zeroValue74
  a23:=Tryz.isAgg3
  z23:=Tryz.sizeOf3
  t25:=Tryz.underlying148
  a25:=Tryz.isAgg148
  z25:=Tryz.sizeOf148
  v25:=Tryz.zeroValue148 }
open Go.RowKit Go.Lib in
theorem Tryz.slices_IndexFunc_empty {α : Type} [Inhabited α] (a : Option Addr) (c : Nat) (fv : Value) (w : World) :
    Calls Tryz.prog 158 #[.slice a 0 c,fv] w fun e w'=>e = .returned (.int .i64 (-1))∧w' = w:=AnyE.slices_IndexFunc_empty Tryz.laysSlH6_f158 a c fv w
def Tryz.laysSlH10_f135_ren : Go.Shelf.Ren:=⟨fun | 10=>135 | 6=>158 | n=>n,fun | 22=>74 | 23=>3 | 25=>148 | 3=>3 | 4=>4 | 0=>0 | n=>n,fun | n=>n⟩
theorem Tryz.laysSlH10_f135 : Go.Proofs.SlLaysH.n10 Tryz.prog Tryz.laysSlH10_f135_ren:={
  mixed:=by kernel_rfl
  f6:=⟨Tryz.f158.name,by decide,Tryz.func158.trans (congrArg some (by kernel_rfl))⟩
  f10:=⟨Tryz.f135.name,by decide,Tryz.func135.trans (congrArg some (by kernel_rfl))⟩
  t0:=Tryz.underlying0
  a0:=Tryz.isAgg0
  z0:=Tryz.sizeOf0
  v0:=Tryz.zeroValue0
  t3:=Tryz.underlying3
  a3:=Tryz.isAgg3
  z3:=Tryz.sizeOf3
  v3:=Tryz.zeroValue3
  t4:=Tryz.underlying4
  a4:=Tryz.isAgg4
  z4:=Tryz.sizeOf4
  v4:=Tryz.zeroValue4
  t22:=Tryz.underlying74
  a22:=Tryz.isAgg74
  z22:=Tryz.sizeOf74
  v22:=Tryz.zeroValue74
  a23:=Tryz.isAgg3
  z23:=Tryz.sizeOf3
  t25:=Tryz.underlying148
  a25:=Tryz.isAgg148
  z25:=Tryz.sizeOf148
  v25:=Tryz.zeroValue148 }
open Go.RowKit Go.Lib Go.Sort in
theorem Tryz.slices_DeleteFunc {α : Type} [Inhabited α] (enc : α→Value) (hO : OneCell enc) (p : α→Bool) (g : Nat) (lb : Array Value) (eg : ∀ args w,(callFunc g args).run Tryz.prog w = .ok (.enter g args) w) (zr : α) (v23 : ∀ w,(zeroValue 3).run Tryz.prog w = .ok (enc zr) w) (blk off cap : Nat) (d : Array α) (w : World) (hp : PredAt Tryz.prog g lb enc p w) (hpo : PredOver Tryz.prog g lb enc p blk off d.size w) (hH : Holds enc w blk off d) (hsz : d.size≤9223372036854775807) (hcap : d.size≤cap) :
    Calls Tryz.prog 135 #[.slice (some ⟨blk,off,none⟩) d.size cap,.func (.func g) #[] lb] w fun e w'=>e = .returned (.slice (some ⟨blk,off,none⟩) (d.toList.filter fun x=>!p x).length cap)∧∃ q,w' = putRow enc (Sort.ahead w q) blk off ((d.toList.filter fun x=>!p x) ++ List.replicate (d.size - (d.toList.filter fun x=>!p x).length) zr).toArray:=AnyE.slices_DeleteFunc Tryz.laysSlH10_f135 enc hO p g lb eg zr v23 blk off cap d w hp hpo hH hsz hcap
end Go.Proofs
end
