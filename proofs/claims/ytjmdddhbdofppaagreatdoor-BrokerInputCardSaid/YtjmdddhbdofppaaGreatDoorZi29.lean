/- Shelf -/
import Derived.Shelf.Small.Bits
import Derived.Shelf.Strconv.Itoa0
import Derived.Shelf.Strconv.Itoa1
import Derived.Shelf.LaysM
import Derived.Shelf.Strconv.Itoa2
import Derived.Shelf.Strconv.Itoa3
import Derived.Shelf.Strconv.Itoa4
import Derived.Shelf.Strconv.ParseIntEmpty
import Derived.Shelf.Strconv.Clone
import Derived.Shelf.Strconv.SyntaxError
import Derived.Shelf.LaysC
import Derived.Shelf.Strconv.ToError
import Derived.Shelf.Strconv.Lower
import Derived.Shelf.Strconv.ParseUint10
import Derived.Shelf.Strconv.ParseUint10Empty
import Derived.Shelf.Strconv.ParseUint10Any
import Derived.Shelf.Strconv.ParseInt10
import Derived.Shelf.Strconv.RangeError
import Derived.Shelf.Strconv.ToErrorRange
import Derived.Shelf.Strconv.ParseUintEmpty
import Derived.Shelf.Strconv.ParseUint10b64
import Derived.Shelf.Strconv.ParseUint10b32
import Derived.Shelf.Strconv.ParseUint10b16
import Derived.Shelf.Strconv.ParseUint10b8
import Derived.Shelf.Strconv.ParseUint10At
import Derived.Shelf.Strconv.ParseInt10At64
import Derived.Shelf.Strconv.ParseInt10At32
import Derived.Shelf.Strconv.ParseInt10At16
import Derived.Shelf.Strconv.ParseInt10At8
import Derived.Shelf.Strconv.ParseInt10All
import Derived.Shelf.Strconv.ParseIntPublic10
import Derived.Shelf.Strconv.ErrVarParseInt
import Derived.Shelf.Strings.Search1
import Derived.Shelf.Strings.Search2
import Derived.Shelf.Strings.Cut
import Derived.Shelf.Strings.Shaped
import Derived.Shelf.Sort.Plain
import Derived.Shelf.Slices.Turned
import Derived.Shelf.Slices.In.SortNone
import Derived.Ground.SlgfProg
import Derived.Shelf.SlicesE.IndexFunc
import Derived.Shelf.SlicesE.DeleteFunc
import Derived.Test.YtjmdddhbdofppaaGreatDoorProg
section
namespace Go.Proofs
open Go.Shelf
def Tryz.lays171_ren : Go.Shelf.Ren:=⟨fun | 171=>51 | 243=>100 | 246=>138 | 283=>163 | 284=>164 | 285=>165 | 286=>166 | 129=>195 | 317=>199 | 318=>200 | 319=>201 | 320=>202 | 337=>227 | 338=>228 | n=>n,fun | 3=>3 | 9=>9 | 2=>2 | 4=>4 | 171=>223 | 0=>0 | 53=>224 | 37=>32 | 5=>5 | 173=>227 | 212=>247 | 51=>245 | 20=>20 | 213=>248 | 46=>84 | 232=>278 | 233=>279 | n=>n,fun | 17=>1 | 18=>2 | 19=>3 | n=>n⟩
theorem Tryz.lays171 : Go.Proofs.Lays.n171 Tryz.prog Tryz.lays171_ren:={
  mixed:=by kernel_rfl
  f129:=Tryz.func195.trans (congrArg some (by kernel_rfl))
  f171:=Tryz.func51.trans (congrArg some (by kernel_rfl))
  f243:=Tryz.func100.trans (congrArg some (by kernel_rfl))
  f246:=Tryz.func138.trans (congrArg some (by kernel_rfl))
  f283:=Tryz.func163.trans (congrArg some (by kernel_rfl))
  f284:=Tryz.func164.trans (congrArg some (by kernel_rfl))
  f285:=Tryz.func165.trans (congrArg some (by kernel_rfl))
  f286:=Tryz.func166.trans (congrArg some (by kernel_rfl))
  f317:=Tryz.func199.trans (congrArg some (by kernel_rfl))
  f318:=Tryz.func200.trans (congrArg some (by kernel_rfl))
  f319:=Tryz.func201.trans (congrArg some (by kernel_rfl))
  f320:=Tryz.func202.trans (congrArg some (by kernel_rfl))
  f337:=Tryz.func227.trans (congrArg some (by kernel_rfl))
  f338:=Tryz.func228.trans (congrArg some (by kernel_rfl))
  t0:=Tryz.underlying0
  a0:=Tryz.isAgg0
  z0:=Tryz.sizeOf0
  v0:=Tryz.zeroValue0
  t2:=Tryz.underlying2
  a2:=Tryz.isAgg2
  z2:=Tryz.sizeOf2
  v2:=Tryz.zeroValue2
  t3:=Tryz.underlying3
  a3:=Tryz.isAgg3
  z3:=Tryz.sizeOf3
  v3:=Tryz.zeroValue3
  t4:=Tryz.underlying4
  a4:=Tryz.isAgg4
  z4:=Tryz.sizeOf4
  v4:=Tryz.zeroValue4
  t5:=Tryz.underlying5
  a5:=Tryz.isAgg5
  z5:=Tryz.sizeOf5
  v5:=Tryz.zeroValue5
  t9:=Tryz.underlying9
  a9:=Tryz.isAgg9
  z9:=Tryz.sizeOf9
  v9:=Tryz.zeroValue9
  t20:=Tryz.underlying20
  a20:=Tryz.isAgg20
  z20:=Tryz.sizeOf20
  v20:=Tryz.zeroValue20
  t37:=Tryz.underlying32
  a37:=Tryz.isAgg32
  z37:=Tryz.sizeOf32
  v37:=Tryz.zeroValue32
  t46:=Tryz.underlying84
  a46:=Tryz.isAgg84
  z46:=Tryz.sizeOf84
  v46:=Tryz.zeroValue84
  t51:=Tryz.underlying245
  a51:=Tryz.isAgg245
  z51:=Tryz.sizeOf245
  v51:=Tryz.zeroValue245
  t53:=Tryz.underlying224
  a53:=Tryz.isAgg224
  z53:=Tryz.sizeOf224
  v53:=Tryz.zeroValue224
  t171:=Tryz.underlying223
  a171:=Tryz.isAgg223
  z171:=Tryz.sizeOf223
  v171:=Tryz.zeroValue223
  t173:=Tryz.underlying227
  a173:=Tryz.isAgg227
  z173:=Tryz.sizeOf227
  v173:=Tryz.zeroValue227
  t212:=Tryz.underlying247
  a212:=Tryz.isAgg247
  z212:=Tryz.sizeOf247
  v212:=Tryz.zeroValue247
  t213:=Tryz.underlying248
  a213:=Tryz.isAgg248
  z213:=Tryz.sizeOf248
  t232:=Tryz.underlying278
  a232:=Tryz.isAgg278
  z232:=Tryz.sizeOf278
  v232:=Tryz.zeroValue278
  t233:=Tryz.underlying279
  a233:=Tryz.isAgg279
  z233:=Tryz.sizeOf279
  v233:=Tryz.zeroValue279
  g17:=by kernel_rfl
  g18:=by kernel_rfl
  g19:=by kernel_rfl }
open Go.RowKit Go.Sort Go.Lib in
theorem Tryz.strconv_Itoa_small (i : Nat) (hi : i < 100) (w : World) :
    Calls Tryz.prog 51 #[.int .i64 i] w fun e w'=>e = .returned (.string ⟨(Lib.decDigits i).toArray⟩)∧w' = w:=Any.strconv_Itoa_small Tryz.lays171 i hi w
def Tryz.laysM173_ren : Go.Shelf.Ren:=⟨fun | 173=>93 | 246=>138 | 283=>163 | 284=>164 | 285=>165 | 286=>166 | 129=>195 | 317=>199 | 318=>200 | 319=>201 | 320=>202 | 337=>227 | 338=>228 | n=>n,fun | 2=>2 | 3=>3 | 9=>9 | 4=>4 | 171=>223 | 0=>0 | 53=>224 | 37=>32 | 5=>5 | 173=>227 | 212=>247 | 51=>245 | 20=>20 | 213=>248 | 46=>84 | 232=>278 | 233=>279 | n=>n,fun | 17=>1 | 18=>2 | 19=>3 | n=>n⟩
theorem Tryz.laysM173 : Go.Proofs.LaysM.n173 Tryz.prog Tryz.laysM173_ren:={
  mixed:=by kernel_rfl
  f129:=Tryz.func195.trans (congrArg some (by kernel_rfl))
  f173:=Tryz.func93.trans (congrArg some (by kernel_rfl))
  f246:=Tryz.func138.trans (congrArg some (by kernel_rfl))
  f283:=Tryz.func163.trans (congrArg some (by kernel_rfl))
  f284:=Tryz.func164.trans (congrArg some (by kernel_rfl))
  f285:=Tryz.func165.trans (congrArg some (by kernel_rfl))
  f286:=Tryz.func166.trans (congrArg some (by kernel_rfl))
  f317:=Tryz.func199.trans (congrArg some (by kernel_rfl))
  f318:=Tryz.func200.trans (congrArg some (by kernel_rfl))
  f319:=Tryz.func201.trans (congrArg some (by kernel_rfl))
  f320:=Tryz.func202.trans (congrArg some (by kernel_rfl))
  f337:=Tryz.func227.trans (congrArg some (by kernel_rfl))
  f338:=Tryz.func228.trans (congrArg some (by kernel_rfl))
  t0:=Tryz.underlying0
  a0:=Tryz.isAgg0
  z0:=Tryz.sizeOf0
  v0:=Tryz.zeroValue0
  t2:=Tryz.underlying2
  a2:=Tryz.isAgg2
  z2:=Tryz.sizeOf2
  v2:=Tryz.zeroValue2
  t3:=Tryz.underlying3
  a3:=Tryz.isAgg3
  z3:=Tryz.sizeOf3
  v3:=Tryz.zeroValue3
  t4:=Tryz.underlying4
  a4:=Tryz.isAgg4
  z4:=Tryz.sizeOf4
  v4:=Tryz.zeroValue4
  t5:=Tryz.underlying5
  a5:=Tryz.isAgg5
  z5:=Tryz.sizeOf5
  v5:=Tryz.zeroValue5
  t9:=Tryz.underlying9
  a9:=Tryz.isAgg9
  z9:=Tryz.sizeOf9
  v9:=Tryz.zeroValue9
  t20:=Tryz.underlying20
  a20:=Tryz.isAgg20
  z20:=Tryz.sizeOf20
  v20:=Tryz.zeroValue20
  t37:=Tryz.underlying32
  a37:=Tryz.isAgg32
  z37:=Tryz.sizeOf32
  v37:=Tryz.zeroValue32
  t46:=Tryz.underlying84
  a46:=Tryz.isAgg84
  z46:=Tryz.sizeOf84
  v46:=Tryz.zeroValue84
  t51:=Tryz.underlying245
  a51:=Tryz.isAgg245
  z51:=Tryz.sizeOf245
  v51:=Tryz.zeroValue245
  t53:=Tryz.underlying224
  a53:=Tryz.isAgg224
  z53:=Tryz.sizeOf224
  v53:=Tryz.zeroValue224
  t171:=Tryz.underlying223
  a171:=Tryz.isAgg223
  z171:=Tryz.sizeOf223
  v171:=Tryz.zeroValue223
  t173:=Tryz.underlying227
  a173:=Tryz.isAgg227
  z173:=Tryz.sizeOf227
  v173:=Tryz.zeroValue227
  t212:=Tryz.underlying247
  a212:=Tryz.isAgg247
  z212:=Tryz.sizeOf247
  v212:=Tryz.zeroValue247
  t213:=Tryz.underlying248
  a213:=Tryz.isAgg248
  z213:=Tryz.sizeOf248
  t232:=Tryz.underlying278
  a232:=Tryz.isAgg278
  z232:=Tryz.sizeOf278
  v232:=Tryz.zeroValue278
  t233:=Tryz.underlying279
  a233:=Tryz.isAgg279
  z233:=Tryz.sizeOf279
  v233:=Tryz.zeroValue279
  g17:=by kernel_rfl
  g18:=by kernel_rfl
  g19:=by kernel_rfl
  i0:=by kernel_rfl
  i2:=by kernel_rfl
  i3:=by kernel_rfl
  i4:=by kernel_rfl
  i5:=by kernel_rfl
  i9:=by kernel_rfl
  i20:=by kernel_rfl
  i37:=by kernel_rfl
  i46:=by kernel_rfl
  i51:=by kernel_rfl
  i53:=by kernel_rfl
  i171:=by kernel_rfl
  i173:=by kernel_rfl
  i212:=by kernel_rfl
  i232:=by kernel_rfl
  i233:=by kernel_rfl
  m17:=by kernel_rfl
  m18:=by kernel_rfl
  m19:=by kernel_rfl }
open Go.RowKit Go.Sort Go.Lib in
theorem Tryz.strconv_FormatInt_10 (n : Int) (h0 : -9223372036854775808≤n) (h1 : n≤9223372036854775807) (w : World) (htab : Lib.TabIs Tryz.prog w "internal/strconv.uint64pow10" .u64 Lib.pow10Tab) :
    Calls Tryz.prog 93 #[.int .i64 n,.int .i64 10] w fun e w'=>e = .returned (.string ⟨(Lib.itoa n).toArray⟩)∧∃ k os,w' = grow (w.drewN k) os:=Any.strconv_FormatInt_10 Tryz.laysM173 n h0 h1 w htab
def Tryz.laysC174_ren : Go.Shelf.Ren:=⟨fun | 174=>236 | 247=>245 | 245=>246 | 287=>249 | 279=>250 | 280=>251 | 281=>252 | 282=>253 | 321=>259 | 322=>260 | 316=>261 | 171=>51 | 205=>262 | 243=>100 | 246=>138 | 283=>163 | 284=>164 | 285=>165 | 286=>166 | 129=>195 | 317=>199 | 318=>200 | 319=>201 | 320=>202 | 337=>227 | 338=>228 | n=>n,fun | 9=>9 | 3=>3 | 2=>2 | 75=>272 | 85=>273 | 4=>4 | 167=>284 | 5=>5 | 53=>224 | 175=>285 | 46=>84 | 168=>287 | 37=>32 | 0=>0 | 210=>295 | 21=>21 | 127=>299 | 145=>302 | 143=>300 | 171=>223 | 173=>227 | 212=>247 | 51=>245 | 20=>20 | 213=>248 | 232=>278 | 233=>279 | 80=>87 | n=>n,fun | 15=>5 | 16=>6 | 17=>1 | 18=>2 | 19=>3 | n=>n⟩
theorem Tryz.laysC174 : Go.Proofs.LaysC.n174 Tryz.prog Tryz.laysC174_ren:={
  mixed:=by kernel_rfl
  f129:=Tryz.func195.trans (congrArg some (by kernel_rfl))
  f171:=Tryz.func51.trans (congrArg some (by kernel_rfl))
  f174:=Tryz.func236.trans (congrArg some (by kernel_rfl))
  f205:=Tryz.func262.trans (congrArg some (by kernel_rfl))
  f243:=Tryz.func100.trans (congrArg some (by kernel_rfl))
  f245:=Tryz.func246.trans (congrArg some (by kernel_rfl))
  f246:=Tryz.func138.trans (congrArg some (by kernel_rfl))
  f247:=Tryz.func245.trans (congrArg some (by kernel_rfl))
  f279:=Tryz.func250.trans (congrArg some (by kernel_rfl))
  f280:=Tryz.func251.trans (congrArg some (by kernel_rfl))
  f281:=Tryz.func252.trans (congrArg some (by kernel_rfl))
  f282:=Tryz.func253.trans (congrArg some (by kernel_rfl))
  f283:=Tryz.func163.trans (congrArg some (by kernel_rfl))
  f284:=Tryz.func164.trans (congrArg some (by kernel_rfl))
  f285:=Tryz.func165.trans (congrArg some (by kernel_rfl))
  f286:=Tryz.func166.trans (congrArg some (by kernel_rfl))
  f287:=Tryz.func249.trans (congrArg some (by kernel_rfl))
  f316:=Tryz.func261.trans (congrArg some (by kernel_rfl))
  f317:=Tryz.func199.trans (congrArg some (by kernel_rfl))
  f318:=Tryz.func200.trans (congrArg some (by kernel_rfl))
  f319:=Tryz.func201.trans (congrArg some (by kernel_rfl))
  f320:=Tryz.func202.trans (congrArg some (by kernel_rfl))
  f321:=Tryz.func259.trans (congrArg some (by kernel_rfl))
  f322:=Tryz.func260.trans (congrArg some (by kernel_rfl))
  f337:=Tryz.func227.trans (congrArg some (by kernel_rfl))
  f338:=Tryz.func228.trans (congrArg some (by kernel_rfl))
  t0:=Tryz.underlying0
  a0:=Tryz.isAgg0
  z0:=Tryz.sizeOf0
  v0:=Tryz.zeroValue0
  t2:=Tryz.underlying2
  a2:=Tryz.isAgg2
  z2:=Tryz.sizeOf2
  v2:=Tryz.zeroValue2
  t3:=Tryz.underlying3
  a3:=Tryz.isAgg3
  z3:=Tryz.sizeOf3
  v3:=Tryz.zeroValue3
  t4:=Tryz.underlying4
  a4:=Tryz.isAgg4
  z4:=Tryz.sizeOf4
  v4:=Tryz.zeroValue4
  t5:=Tryz.underlying5
  a5:=Tryz.isAgg5
  z5:=Tryz.sizeOf5
  v5:=Tryz.zeroValue5
  t9:=Tryz.underlying9
  a9:=Tryz.isAgg9
  z9:=Tryz.sizeOf9
  v9:=Tryz.zeroValue9
  t20:=Tryz.underlying20
  a20:=Tryz.isAgg20
  z20:=Tryz.sizeOf20
  v20:=Tryz.zeroValue20
  t21:=Tryz.underlying21
  a21:=Tryz.isAgg21
  z21:=Tryz.sizeOf21
  v21:=Tryz.zeroValue21
  t37:=Tryz.underlying32
  a37:=Tryz.isAgg32
  z37:=Tryz.sizeOf32
  v37:=Tryz.zeroValue32
  t46:=Tryz.underlying84
  a46:=Tryz.isAgg84
  z46:=Tryz.sizeOf84
  v46:=Tryz.zeroValue84
  t51:=Tryz.underlying245
  a51:=Tryz.isAgg245
  z51:=Tryz.sizeOf245
  v51:=Tryz.zeroValue245
  t53:=Tryz.underlying224
  a53:=Tryz.isAgg224
  z53:=Tryz.sizeOf224
  v53:=Tryz.zeroValue224
  t75:=Tryz.underlying272
  a75:=Tryz.isAgg272
  z75:=Tryz.sizeOf272
  v75:=Tryz.zeroValue272
  t85:=Tryz.underlying273
  a85:=Tryz.isAgg273
  z85:=Tryz.sizeOf273
  v85:=Tryz.zeroValue273
  t127:=Tryz.underlying299
  a127:=Tryz.isAgg299
  z127:=Tryz.sizeOf299
  v127:=Tryz.zeroValue299
  t143:=Tryz.underlying300
  a143:=Tryz.isAgg300
  z143:=Tryz.sizeOf300
  v143:=Tryz.zeroValue300
  t145:=Tryz.underlying302
  a145:=Tryz.isAgg302
  z145:=Tryz.sizeOf302
  v145:=Tryz.zeroValue302
  t167:=Tryz.underlying284
  a167:=Tryz.isAgg284
  z167:=Tryz.sizeOf284
  v167:=Tryz.zeroValue284
  t168:=Tryz.underlying287
  a168:=Tryz.isAgg287
  z168:=Tryz.sizeOf287
  v168:=Tryz.zeroValue287
  t171:=Tryz.underlying223
  a171:=Tryz.isAgg223
  z171:=Tryz.sizeOf223
  v171:=Tryz.zeroValue223
  t173:=Tryz.underlying227
  a173:=Tryz.isAgg227
  z173:=Tryz.sizeOf227
  v173:=Tryz.zeroValue227
  t175:=Tryz.underlying285
  a175:=Tryz.isAgg285
  z175:=Tryz.sizeOf285
  v175:=Tryz.zeroValue285
  t210:=Tryz.underlying295
  a210:=Tryz.isAgg295
  z210:=Tryz.sizeOf295
  v210:=Tryz.zeroValue295
  t212:=Tryz.underlying247
  a212:=Tryz.isAgg247
  z212:=Tryz.sizeOf247
  v212:=Tryz.zeroValue247
  t213:=Tryz.underlying248
  a213:=Tryz.isAgg248
  z213:=Tryz.sizeOf248
  t232:=Tryz.underlying278
  a232:=Tryz.isAgg278
  z232:=Tryz.sizeOf278
  v232:=Tryz.zeroValue278
  t233:=Tryz.underlying279
  a233:=Tryz.isAgg279
  z233:=Tryz.sizeOf279
  v233:=Tryz.zeroValue279
  g15:=by kernel_rfl
  g16:=by kernel_rfl
  g17:=by kernel_rfl
  g18:=by kernel_rfl
  g19:=by kernel_rfl
  t80:=Tryz.underlying87
  a80:=Tryz.isAgg87
  z80:=Tryz.sizeOf87
  v80:=Tryz.zeroValue87
  i0:=by kernel_rfl
  i2:=by kernel_rfl
  i3:=by kernel_rfl
  i4:=by kernel_rfl
  i5:=by kernel_rfl
  i9:=by kernel_rfl
  i20:=by kernel_rfl
  i21:=by kernel_rfl
  i37:=by kernel_rfl
  i46:=by kernel_rfl
  i51:=by kernel_rfl
  i53:=by kernel_rfl
  i75:=by kernel_rfl
  i80:=by kernel_rfl
  i85:=by kernel_rfl
  i127:=by kernel_rfl
  i143:=by kernel_rfl
  i145:=by kernel_rfl
  i167:=by kernel_rfl
  i168:=by kernel_rfl
  i171:=by kernel_rfl
  i173:=by kernel_rfl
  i175:=by kernel_rfl
  i210:=by kernel_rfl
  i212:=by kernel_rfl
  i232:=by kernel_rfl
  i233:=by kernel_rfl
  m15:=by kernel_rfl
  m16:=by kernel_rfl
  m17:=by kernel_rfl
  m18:=by kernel_rfl
  m19:=by kernel_rfl
  c0:=by kernel_rfl
  c2:=by kernel_rfl
  c3:=by kernel_rfl
  c4:=by kernel_rfl
  c5:=by kernel_rfl
  c9:=by kernel_rfl
  c20:=by kernel_rfl
  c21:=by kernel_rfl
  c37:=by kernel_rfl
  c46:=by kernel_rfl
  c51:=by kernel_rfl
  c53:=by kernel_rfl
  c75:=by kernel_rfl
  c80:=by kernel_rfl
  c85:=by kernel_rfl
  c127:=by kernel_rfl
  c143:=by kernel_rfl
  c145:=by kernel_rfl
  c167:=by kernel_rfl
  c168:=by kernel_rfl
  c171:=by kernel_rfl
  c173:=by kernel_rfl
  c175:=by kernel_rfl
  c210:=by kernel_rfl
  c212:=by kernel_rfl
  c213:=by kernel_rfl
  c232:=by kernel_rfl
  c233:=by kernel_rfl }
open Go.RowKit in
theorem Tryz.strconv_ParseInt_10_at64_ok (s : ByteArray) (hmax : s.size≤9223372036854775806) (v : Int) (h : Lib.parseIntB 64 s.data.toList = .ok v) (w : World) :
    Calls Tryz.prog 236 #[.string s,.int .i64 10,.int .i64 64] w fun e w'=>e = .returned (.tuple #[.int .i64 v,.nilIface])∧(w' = w∨∃ t,w' = Lib.bytesWorld w 5 t):=Any.strconv_ParseInt_10_at64_ok Tryz.laysC174 s hmax v h w
open Go.RowKit in
theorem Tryz.strconv_ParseInt_10_at64_range_var (s : ByteArray) (hlim : s.size≤281474976710656) (h : Lib.parseIntB 64 s.data.toList = .range) (tp : TypeId) (p : Value) (w : World) (hvar : w.var? Tryz.prog "strconv.ErrRange" = some #[.iface tp p]) :
    Calls Tryz.prog 236 #[.string s,.int .i64 10,.int .i64 64] w fun e w'=>∃ N,e = .returned (.tuple #[.int .i64 (Lib.intSat 64 s.data.toList),.iface 287 (.pointer (some ⟨N,0,none⟩))])∧w.heap.size≤N∧w'.heap[N]? = some (.cells #[.string ⟨#[80,97,114,115,101,73,110,116]⟩,.string s,.iface tp p] 295 (0,0))∧Below w.heap.size w w':=Any.strconv_ParseInt_10_at64_range_var Tryz.laysC174 s hlim h tp p w hvar
def Tryz.lays219_ren : Go.Shelf.Ren:=⟨fun | 219=>248 | 217=>255 | 225=>256 | 224=>257 | 267=>258 | 266=>263 | 314=>264 | n=>n,fun | 9=>9 | 3=>3 | 4=>4 | 5=>5 | 46=>84 | 146=>297 | 51=>245 | n=>n,fun | 1=>4 | n=>n⟩
theorem Tryz.lays219 : Go.Proofs.Lays.n219 Tryz.prog Tryz.lays219_ren:={
  mixed:=by kernel_rfl
  f217:=Tryz.func255.trans (congrArg some (by kernel_rfl))
  f219:=Tryz.func248.trans (congrArg some (by kernel_rfl))
  f224:=Tryz.func257.trans (congrArg some (by kernel_rfl))
  f225:=Tryz.func256.trans (congrArg some (by kernel_rfl))
  f266:=Tryz.func263.trans (congrArg some (by kernel_rfl))
  f267:=Tryz.func258.trans (congrArg some (by kernel_rfl))
  f314:=Tryz.func264.trans (congrArg some (by kernel_rfl))
  t3:=Tryz.underlying3
  a3:=Tryz.isAgg3
  z3:=Tryz.sizeOf3
  v3:=Tryz.zeroValue3
  t4:=Tryz.underlying4
  a4:=Tryz.isAgg4
  z4:=Tryz.sizeOf4
  v4:=Tryz.zeroValue4
  t5:=Tryz.underlying5
  a5:=Tryz.isAgg5
  z5:=Tryz.sizeOf5
  v5:=Tryz.zeroValue5
  t9:=Tryz.underlying9
  a9:=Tryz.isAgg9
  z9:=Tryz.sizeOf9
  v9:=Tryz.zeroValue9
  t46:=Tryz.underlying84
  a46:=Tryz.isAgg84
  z46:=Tryz.sizeOf84
  v46:=Tryz.zeroValue84
  t51:=Tryz.underlying245
  a51:=Tryz.isAgg245
  z51:=Tryz.sizeOf245
  v51:=Tryz.zeroValue245
  t146:=Tryz.underlying297
  a146:=Tryz.isAgg297
  z146:=Tryz.sizeOf297
  v146:=Tryz.zeroValue297
  g1:=by kernel_rfl }
open Go.RowKit Go.Lib in
theorem Tryz.stringslite_Index_one (s : ByteArray) (c : UInt8) (w : World) :
    Calls Tryz.prog 248 #[.string s,.string ⟨#[c]⟩] w fun e w'=>e = .returned (.int .i64 (Lib.indexByte s.data.toList c))∧w' = w:=Any.stringslite_Index_one Tryz.lays219 s c w
def Tryz.lays189_ren : Go.Shelf.Ren:=⟨fun | 189=>129 | 125=>159 | 257=>158 | 128=>194 | 129=>195 | 294=>185 | 295=>186 | 296=>187 | 297=>188 | 298=>189 | 299=>190 | 216=>191 | 300=>192 | 301=>193 | 328=>221 | 329=>222 | 330=>223 | 331=>224 | 332=>225 | 215=>226 | 343=>241 | n=>n,fun | 28=>68 | 3=>3 | 46=>84 | 0=>0 | 51=>245 | 53=>224 | 4=>4 | 183=>238 | 182=>237 | 131=>242 | 5=>5 | 9=>9 | 218=>260 | 222=>264 | 228=>275 | 229=>276 | n=>n,fun | n=>n⟩
theorem Tryz.lays189 : Go.Proofs.Lays.n189 Tryz.prog Tryz.lays189_ren:={
  mixed:=by kernel_rfl
  f125:=Tryz.func159.trans (congrArg some (by kernel_rfl))
  f128:=Tryz.func194.trans (congrArg some (by kernel_rfl))
  f129:=Tryz.func195.trans (congrArg some (by kernel_rfl))
  f189:=Tryz.func129.trans (congrArg some (by kernel_rfl))
  f215:=Tryz.func226.trans (congrArg some (by kernel_rfl))
  f216:=Tryz.func191.trans (congrArg some (by kernel_rfl))
  f257:=Tryz.func158.trans (congrArg some (by kernel_rfl))
  f294:=Tryz.func185.trans (congrArg some (by kernel_rfl))
  f295:=Tryz.func186.trans (congrArg some (by kernel_rfl))
  f296:=Tryz.func187.trans (congrArg some (by kernel_rfl))
  f297:=Tryz.func188.trans (congrArg some (by kernel_rfl))
  f298:=Tryz.func189.trans (congrArg some (by kernel_rfl))
  f299:=Tryz.func190.trans (congrArg some (by kernel_rfl))
  f300:=Tryz.func192.trans (congrArg some (by kernel_rfl))
  f301:=Tryz.func193.trans (congrArg some (by kernel_rfl))
  f328:=Tryz.func221.trans (congrArg some (by kernel_rfl))
  f329:=Tryz.func222.trans (congrArg some (by kernel_rfl))
  f330:=Tryz.func223.trans (congrArg some (by kernel_rfl))
  f331:=Tryz.func224.trans (congrArg some (by kernel_rfl))
  f332:=Tryz.func225.trans (congrArg some (by kernel_rfl))
  f343:=Tryz.func241.trans (congrArg some (by kernel_rfl))
  t0:=Tryz.underlying0
  a0:=Tryz.isAgg0
  z0:=Tryz.sizeOf0
  v0:=Tryz.zeroValue0
  t3:=Tryz.underlying3
  a3:=Tryz.isAgg3
  z3:=Tryz.sizeOf3
  v3:=Tryz.zeroValue3
  t4:=Tryz.underlying4
  a4:=Tryz.isAgg4
  z4:=Tryz.sizeOf4
  v4:=Tryz.zeroValue4
  t5:=Tryz.underlying5
  a5:=Tryz.isAgg5
  z5:=Tryz.sizeOf5
  v5:=Tryz.zeroValue5
  t9:=Tryz.underlying9
  a9:=Tryz.isAgg9
  z9:=Tryz.sizeOf9
  v9:=Tryz.zeroValue9
  t28:=Tryz.underlying68
  a28:=Tryz.isAgg68
  z28:=Tryz.sizeOf68
  v28:=Tryz.zeroValue68
  t46:=Tryz.underlying84
  a46:=Tryz.isAgg84
  z46:=Tryz.sizeOf84
  v46:=Tryz.zeroValue84
  t51:=Tryz.underlying245
  a51:=Tryz.isAgg245
  z51:=Tryz.sizeOf245
  v51:=Tryz.zeroValue245
  t53:=Tryz.underlying224
  a53:=Tryz.isAgg224
  z53:=Tryz.sizeOf224
  v53:=Tryz.zeroValue224
  t131:=Tryz.underlying242
  a131:=Tryz.isAgg242
  z131:=Tryz.sizeOf242
  v131:=Tryz.zeroValue242
  t182:=Tryz.underlying237
  a182:=Tryz.isAgg237
  z182:=Tryz.sizeOf237
  v182:=Tryz.zeroValue237
  t183:=Tryz.underlying238
  a183:=Tryz.isAgg238
  z183:=Tryz.sizeOf238
  v183:=Tryz.zeroValue238
  t218:=Tryz.underlying260
  a218:=Tryz.isAgg260
  z218:=Tryz.sizeOf260
  v218:=Tryz.zeroValue260
  t222:=Tryz.underlying264
  a222:=Tryz.isAgg264
  z222:=Tryz.sizeOf264
  v222:=Tryz.zeroValue264
  t228:=Tryz.underlying275
  a228:=Tryz.isAgg275
  z228:=Tryz.sizeOf275
  v228:=Tryz.zeroValue275
  t229:=Tryz.underlying276
  a229:=Tryz.isAgg276
  z229:=Tryz.sizeOf276
  v229:=Tryz.zeroValue276 }
open Go.Sort Go.RowKit in
theorem Tryz.slices_Sort_int (blk off cap : Nat) (zs : List Int) (w : World) (hH : Holds (Value.int .i64) w blk off zs.toArray) (hblk : blk < w.heap.size) (hsz : zs.length < 4611686018427387904) :
    Calls Tryz.prog 129 #[.slice (some ⟨blk,off,none⟩) zs.length cap] w fun e w' =>
      e = .returned (.tuple #[])∧∃ n os,w' = grow (putRow (Value.int .i64) (Sort.ahead w n) blk off (zs.mergeSort fun x y=>decide (x≤y)).toArray) os:=Any.slices_Sort_int Tryz.lays189 blk off cap zs w hH hblk hsz
def Tryz.lays107_ren : Go.Shelf.Ren:=⟨fun | 107=>247 | 108=>254 | n=>n,fun | 28=>68 | 3=>3 | 4=>4 | 0=>0 | n=>n,fun | n=>n⟩
theorem Tryz.lays107 : Go.Proofs.Lays.n107 Tryz.prog Tryz.lays107_ren:={
  mixed:=by kernel_rfl
  f107:=Tryz.func247.trans (congrArg some (by kernel_rfl))
  f108:=Tryz.func254.trans (congrArg some (by kernel_rfl))
  t0:=Tryz.underlying0
  a0:=Tryz.isAgg0
  z0:=Tryz.sizeOf0
  v0:=Tryz.zeroValue0
  t3:=Tryz.underlying3
  a3:=Tryz.isAgg3
  z3:=Tryz.sizeOf3
  v3:=Tryz.zeroValue3
  t4:=Tryz.underlying4
  a4:=Tryz.isAgg4
  z4:=Tryz.sizeOf4
  v4:=Tryz.zeroValue4
  t28:=Tryz.underlying68
  a28:=Tryz.isAgg68
  z28:=Tryz.sizeOf68
  v28:=Tryz.zeroValue68 }
open Go.Lib in
theorem Tryz.slices_Contains_int (b off n c : Nat) (zs : List Int) (x : Int) (w : World) (hz : n≤zs.length) (hbig : n≤9223372036854775807) (hc : ∀ j,j < zs.length→w.cell? ⟨b,off + j,none⟩ = some (.int .i64 (zs.getD j 0))) :
    Calls Tryz.prog 247 #[.slice (some ⟨b,off,none⟩) n c,.int .i64 x] w fun e w'=>e = .returned (.bool ((zs.take n).contains x))∧w' = w:=Any.slices_Contains_int Tryz.lays107 b off n c zs x w hz hbig hc
open Go.Lib in
theorem Tryz.slices_Contains_int_empty (a : Option Addr) (c : Nat) (x : Int) (w : World) :
    Calls Tryz.prog 247 #[.slice a 0 c,.int .i64 x] w fun e w'=>e = .returned (.bool false)∧w' = w:=Any.slices_Contains_int_empty Tryz.lays107 a c x w
open Go.RowKit Go.Sort in
theorem Tryz.slices_Sort_int_none (p : Option Addr) (cap : Nat) (w : World) :
    Calls Tryz.prog 129 #[.slice p 0 cap] w fun e w'=>e = .returned (.tuple #[])∧w' = w:=Any.slices_Sort_int_none Tryz.lays189 p cap w
def Tryz.laysSlH6_f242_ren : Go.Shelf.Ren:=⟨fun | 6=>242 | n=>n,fun | 22=>68 | 23=>3 | 25=>209 | 3=>3 | 0=>0 | 4=>4 | n=>n,fun | n=>n⟩
theorem Tryz.laysSlH6_f242 : Go.Proofs.SlLaysH.n6 Tryz.prog Tryz.laysSlH6_f242_ren:={
  mixed:=by kernel_rfl
  f6:=⟨Tryz.f242.name,by decide,Tryz.func242.trans (congrArg some (by kernel_rfl))⟩
  t0:=Tryz.underlying0
  a0:=Tryz.isAgg0
  z0:=Tryz.sizeOf0
  v0:=Tryz.zeroValue0
  t3:=Tryz.underlying3
  a3:=Tryz.isAgg3
  z3:=Tryz.sizeOf3
  v3:=Tryz.zeroValue3
  t4:=Tryz.underlying4
  a4:=Tryz.isAgg4
  z4:=Tryz.sizeOf4
  v4:=Tryz.zeroValue4
  t22:=Tryz.underlying68
  a22:=Tryz.isAgg68
  z22:=Tryz.sizeOf68
  v22:=Tryz.zeroValue68
  a23:=Tryz.isAgg3
  z23:=Tryz.sizeOf3
  t25:=Tryz.underlying209
  a25:=Tryz.isAgg209
  z25:=Tryz.sizeOf209
  v25:=Tryz.zeroValue209 }
open Go.RowKit Go.Lib in
theorem Tryz.slices_IndexFunc_empty {α : Type} [Inhabited α] (a : Option Addr) (c : Nat) (fv : Value) (w : World) :
    Calls Tryz.prog 242 #[.slice a 0 c,fv] w fun e w'=>e = .returned (.int .i64 (-1))∧w' = w:=AnyE.slices_IndexFunc_empty Tryz.laysSlH6_f242 a c fv w
def Tryz.laysSlH10_f229_ren : Go.Shelf.Ren:=⟨fun | 10=>229 | 6=>242 | n=>n,fun | 22=>68 | 23=>3 | 25=>209 | 3=>3 | 4=>4 | 0=>0 | n=>n,fun | n=>n⟩
theorem Tryz.laysSlH10_f229 : Go.Proofs.SlLaysH.n10 Tryz.prog Tryz.laysSlH10_f229_ren:={
  mixed:=by kernel_rfl
  f6:=⟨Tryz.f242.name,by decide,Tryz.func242.trans (congrArg some (by kernel_rfl))⟩
  f10:=⟨Tryz.f229.name,by decide,Tryz.func229.trans (congrArg some (by kernel_rfl))⟩
  t0:=Tryz.underlying0
  a0:=Tryz.isAgg0
  z0:=Tryz.sizeOf0
  v0:=Tryz.zeroValue0
  t3:=Tryz.underlying3
  a3:=Tryz.isAgg3
  z3:=Tryz.sizeOf3
  v3:=Tryz.zeroValue3
  t4:=Tryz.underlying4
  a4:=Tryz.isAgg4
  z4:=Tryz.sizeOf4
  v4:=Tryz.zeroValue4
  t22:=Tryz.underlying68
  a22:=Tryz.isAgg68
  z22:=Tryz.sizeOf68
  v22:=Tryz.zeroValue68
  a23:=Tryz.isAgg3
  z23:=Tryz.sizeOf3
  t25:=Tryz.underlying209
  a25:=Tryz.isAgg209
  z25:=Tryz.sizeOf209
  v25:=Tryz.zeroValue209 }
open Go.RowKit Go.Lib Go.Sort in
theorem Tryz.slices_DeleteFunc {α : Type} [Inhabited α] (enc : α→Value) (hO : OneCell enc) (p : α→Bool) (g : Nat) (lb : Array Value) (eg : ∀ args w,(callFunc g args).run Tryz.prog w = .ok (.enter g args) w) (zr : α) (v23 : ∀ w,(zeroValue 3).run Tryz.prog w = .ok (enc zr) w) (blk off cap : Nat) (d : Array α) (w : World) (hp : PredAt Tryz.prog g lb enc p w) (hpo : PredOver Tryz.prog g lb enc p blk off d.size w) (hH : Holds enc w blk off d) (hsz : d.size≤9223372036854775807) (hcap : d.size≤cap) :
    Calls Tryz.prog 229 #[.slice (some ⟨blk,off,none⟩) d.size cap,.func (.func g) #[] lb] w fun e w'=>e = .returned (.slice (some ⟨blk,off,none⟩) (d.toList.filter fun x=>!p x).length cap)∧∃ q,w' = putRow enc (Sort.ahead w q) blk off ((d.toList.filter fun x=>!p x) ++ List.replicate (d.size - (d.toList.filter fun x=>!p x).length) zr).toArray:=AnyE.slices_DeleteFunc Tryz.laysSlH10_f229 enc hO p g lb eg zr v23 blk off cap d w hp hpo hH hsz hcap
end Go.Proofs
end
