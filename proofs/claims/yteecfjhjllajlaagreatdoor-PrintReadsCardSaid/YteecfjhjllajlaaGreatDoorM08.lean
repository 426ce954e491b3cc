/- PROVED: Psh Xf Xg. No more condition. -/
import Derived.Shelf.LaysM
import Derived.Shelf.Strings.Repeat
import Derived.Test.YteecfjhjllajlaaGreatDoorM07
import Derived.Lib.AppendIntMem
set_option maxHeartbeats 2500000
set_option maxRecDepth 100000
namespace Go.Proofs
open Go.Lib (hid)
open Go Go.RowKit
section
open Go.Shelf
def Tryz.lays121_ren:Go.Shelf.Ren:=⟨λ|121=>124 |214=>197 |n=>n,λ|4=>4 |9=>9 |n=>n,λ|n=>n⟩
theorem Tryz.lays121:Go.Proofs.Lays.n121 Tryz.prog Tryz.lays121_ren := {
 mixed:=by kernel_rfl
 f121:=Tryz.func124.trans (congrArg some (by kernel_rfl))
 f214:=Tryz.func197.trans (congrArg some (by kernel_rfl))
 t4:=Tryz.underlying4
 a4:=Tryz.isAgg4
 z4:=Tryz.sizeOf4
 v4:=Tryz.zeroValue4
 t9:=Tryz.underlying9
 a9:=Tryz.isAgg9
 z9:=Tryz.sizeOf9
 v9:=Tryz.zeroValue9}
open Go.RowKit in
theorem Tryz.strconv_FormatBool (b:Bool)(w:World) :
  Calls Tryz.prog 124 #[.bool b] w λe w'=>e=.returned (.string ⟨(Lib.formatBool b).toArray⟩)/\w'=w:=Any.strconv_FormatBool Tryz.lays121 b w
def Tryz.laysM171_ren:Go.Shelf.Ren:=⟨λ|171=>123 |243=>196 |246=>248 |283=>287 |284=>288 |285=>289 |286=>290 |129=>234 |317=>311 |318=>312 |319=>313 |320=>314 |337=>323 |338=>324 |n=>n,λ|3=>3 |9=>9 |2=>2 |4=>4 |171=>211 |0=>0 |53=>188 |37=>114 |5=>5 |173=>213 |212=>227 |51=>186 |20=>20 |213=>228 |46=>149 |232=>241 |233=>242 |n=>n,λ|17=>0 |18=>4 |19=>5 |n=>n⟩
theorem Tryz.laysM171:Go.Proofs.LaysM.n171 Tryz.prog Tryz.laysM171_ren := {
 mixed:=by kernel_rfl
 f129:=Tryz.func234.trans (congrArg some (by kernel_rfl))
 f171:=Tryz.func123.trans (congrArg some (by kernel_rfl))
 f243:=Tryz.func196.trans (congrArg some (by kernel_rfl))
 f246:=Tryz.func248.trans (congrArg some (by kernel_rfl))
 f283:=Tryz.func287.trans (congrArg some (by kernel_rfl))
 f284:=Tryz.func288.trans (congrArg some (by kernel_rfl))
 f285:=Tryz.func289.trans (congrArg some (by kernel_rfl))
 f286:=Tryz.func290.trans (congrArg some (by kernel_rfl))
 f317:=Tryz.func311.trans (congrArg some (by kernel_rfl))
 f318:=Tryz.func312.trans (congrArg some (by kernel_rfl))
 f319:=Tryz.func313.trans (congrArg some (by kernel_rfl))
 f320:=Tryz.func314.trans (congrArg some (by kernel_rfl))
 f337:=Tryz.func323.trans (congrArg some (by kernel_rfl))
 f338:=Tryz.func324.trans (congrArg some (by kernel_rfl))
 t0:=Tryz.underlying0
 a0:=Tryz.isAgg0
 z0:=Tryz.sizeOf0
 v0:=Tryz.zeroValue0
 t2:=Tryz.underlying2
 a2:=Tryz.isAgg2
 z2:=Tryz.sizeOf2
 v2:=Tryz.zeroValue2
 t3:=Tryz.underlying3
 a3:=Tryz.isAgg3
 z3:=Tryz.sizeOf3
 v3:=Tryz.zeroValue3
 t4:=Tryz.underlying4
 a4:=Tryz.isAgg4
 z4:=Tryz.sizeOf4
 v4:=Tryz.zeroValue4
 t5:=Tryz.underlying5
 a5:=Tryz.isAgg5
 z5:=Tryz.sizeOf5
 v5:=Tryz.zeroValue5
 t9:=Tryz.underlying9
 a9:=Tryz.isAgg9
 z9:=Tryz.sizeOf9
 v9:=Tryz.zeroValue9
 t20:=Tryz.underlying20
 a20:=Tryz.isAgg20
 z20:=Tryz.sizeOf20
 v20:=Tryz.zeroValue20
 t37:=Tryz.underlying114
 a37:=Tryz.isAgg114
 z37:=Tryz.sizeOf114
 v37:=Tryz.zeroValue114
 t46:=Tryz.underlying149
 a46:=Tryz.isAgg149
 z46:=Tryz.sizeOf149
 v46:=Tryz.zeroValue149
 t51:=Tryz.underlying186
 a51:=Tryz.isAgg186
 z51:=Tryz.sizeOf186
 v51:=Tryz.zeroValue186
 t53:=Tryz.underlying188
 a53:=Tryz.isAgg188
 z53:=Tryz.sizeOf188
 v53:=Tryz.zeroValue188
 t171:=Tryz.underlying211
 a171:=Tryz.isAgg211
 z171:=Tryz.sizeOf211
 v171:=Tryz.zeroValue211
 t173:=Tryz.underlying213
 a173:=Tryz.isAgg213
 z173:=Tryz.sizeOf213
 v173:=Tryz.zeroValue213
 t212:=Tryz.underlying227
 a212:=Tryz.isAgg227
 z212:=Tryz.sizeOf227
 v212:=Tryz.zeroValue227
 t213:=Tryz.underlying228
 a213:=Tryz.isAgg228
 z213:=Tryz.sizeOf228
 t232:=Tryz.underlying241
 a232:=Tryz.isAgg241
 z232:=Tryz.sizeOf241
 v232:=Tryz.zeroValue241
 t233:=Tryz.underlying242
 a233:=Tryz.isAgg242
 z233:=Tryz.sizeOf242
 v233:=Tryz.zeroValue242
 g17:=by kernel_rfl
 g18:=by kernel_rfl
 g19:=by kernel_rfl
 i0:=by kernel_rfl
 i2:=by kernel_rfl
 i3:=by kernel_rfl
 i4:=by kernel_rfl
 i5:=by kernel_rfl
 i9:=by kernel_rfl
 i20:=by kernel_rfl
 i37:=by kernel_rfl
 i46:=by kernel_rfl
 i51:=by kernel_rfl
 i53:=by kernel_rfl
 i171:=by kernel_rfl
 i173:=by kernel_rfl
 i212:=by kernel_rfl
 i232:=by kernel_rfl
 i233:=by kernel_rfl
 m17:=by kernel_rfl
 m18:=by kernel_rfl
 m19:=by kernel_rfl}
open Go.RowKit Go.Sort Go.Lib in
theorem Tryz.strconv_Itoa (n:Int)(h0 : -9223372036854775808<=n)(h1:n<=9223372036854775807)(w:World)(htab:Lib.TabIs Tryz.prog w "internal/strconv.uint64pow10" .u64 Lib.pow10Tab) :
  Calls Tryz.prog 123 #[.int .i64 n] w λe w'=>e=.returned (.string ⟨(Lib.itoa n).toArray⟩)/\∃k os,w'=grow (w.drewN k) os:=Any.strconv_Itoa Tryz.laysM171 n h0 h1 w htab
def Tryz.lays105_ren:Go.Shelf.Ren:=⟨λ|105=>245 |212=>283 |99=>284 |165=>285 |166=>189 |170=>286 |169=>118 |263=>307 |264=>308 |206=>309 |240=>244 |241=>310 |276=>282 |277=>322 |n=>n,λ|9=>9 |3=>3 |4=>4 |20=>20 |0=>0 |46=>149 |109=>209 |5=>5 |72=>116 |76=>161 |51=>186 |146=>222 |53=>188 |148=>224 |70=>113 |37=>114 |75=>160 |127=>163 |164=>207 |80=>119 |n=>n,λ|n=>n⟩
theorem Tryz.lays105:Go.Proofs.Lays.n105 Tryz.prog Tryz.lays105_ren := {
 mixed:=by kernel_rfl
 f99:=Tryz.func284.trans (congrArg some (by kernel_rfl))
 f105:=Tryz.func245.trans (congrArg some (by kernel_rfl))
 f165:=Tryz.func285.trans (congrArg some (by kernel_rfl))
 f166:=Tryz.func189.trans (congrArg some (by kernel_rfl))
 f169:=Tryz.func118.trans (congrArg some (by kernel_rfl))
 f170:=Tryz.func286.trans (congrArg some (by kernel_rfl))
 f206:=Tryz.func309.trans (congrArg some (by kernel_rfl))
 f212:=Tryz.func283.trans (congrArg some (by kernel_rfl))
 f240:=Tryz.func244.trans (congrArg some (by kernel_rfl))
 f241:=Tryz.func310.trans (congrArg some (by kernel_rfl))
 f263:=Tryz.func307.trans (congrArg some (by kernel_rfl))
 f264:=Tryz.func308.trans (congrArg some (by kernel_rfl))
 f276:=Tryz.func282.trans (congrArg some (by kernel_rfl))
 f277:=Tryz.func322.trans (congrArg some (by kernel_rfl))
 t0:=Tryz.underlying0
 a0:=Tryz.isAgg0
 z0:=Tryz.sizeOf0
 v0:=Tryz.zeroValue0
 t3:=Tryz.underlying3
 a3:=Tryz.isAgg3
 z3:=Tryz.sizeOf3
 v3:=Tryz.zeroValue3
 t4:=Tryz.underlying4
 a4:=Tryz.isAgg4
 z4:=Tryz.sizeOf4
 v4:=Tryz.zeroValue4
 t5:=Tryz.underlying5
 a5:=Tryz.isAgg5
 z5:=Tryz.sizeOf5
 v5:=Tryz.zeroValue5
 t9:=Tryz.underlying9
 a9:=Tryz.isAgg9
 z9:=Tryz.sizeOf9
 v9:=Tryz.zeroValue9
 t20:=Tryz.underlying20
 a20:=Tryz.isAgg20
 z20:=Tryz.sizeOf20
 v20:=Tryz.zeroValue20
 t37:=Tryz.underlying114
 a37:=Tryz.isAgg114
 z37:=Tryz.sizeOf114
 v37:=Tryz.zeroValue114
 t46:=Tryz.underlying149
 a46:=Tryz.isAgg149
 z46:=Tryz.sizeOf149
 v46:=Tryz.zeroValue149
 t51:=Tryz.underlying186
 a51:=Tryz.isAgg186
 z51:=Tryz.sizeOf186
 v51:=Tryz.zeroValue186
 t53:=Tryz.underlying188
 a53:=Tryz.isAgg188
 z53:=Tryz.sizeOf188
 v53:=Tryz.zeroValue188
 t70:=Tryz.underlying113
 a70:=Tryz.isAgg113
 z70:=Tryz.sizeOf113
 v70:=Tryz.zeroValue113
 t72:=Tryz.underlying116
 a72:=Tryz.isAgg116
 z72:=Tryz.sizeOf116
 v72:=Tryz.zeroValue116
 t75:=Tryz.underlying160
 a75:=Tryz.isAgg160
 z75:=Tryz.sizeOf160
 v75:=Tryz.zeroValue160
 t76:=Tryz.underlying161
 a76:=Tryz.isAgg161
 z76:=Tryz.sizeOf161
 v76:=Tryz.zeroValue161
 t109:=Tryz.underlying209
 a109:=Tryz.isAgg209
 z109:=Tryz.sizeOf209
 v109:=Tryz.zeroValue209
 t127:=Tryz.underlying163
 a127:=Tryz.isAgg163
 z127:=Tryz.sizeOf163
 v127:=Tryz.zeroValue163
 t146:=Tryz.underlying222
 a146:=Tryz.isAgg222
 z146:=Tryz.sizeOf222
 v146:=Tryz.zeroValue222
 t148:=Tryz.underlying224
 a148:=Tryz.isAgg224
 z148:=Tryz.sizeOf224
 v148:=Tryz.zeroValue224
 t164:=Tryz.underlying207
 a164:=Tryz.isAgg207
 z164:=Tryz.sizeOf207
 v164:=Tryz.zeroValue207}
theorem Tryz.Builder_Extra_105:Builder.Extra Tryz.prog Tryz.lays105_ren := {
 sizeBuilder:=by kernel_rfl
 liesBuilder:=by kernel_rfl
 t5:=Tryz.underlying5
 a5:=Tryz.isAgg5
 z5:=Tryz.sizeOf5
 v5:=Tryz.zeroValue5
 infoByte:=by kernel_rfl
 cellsByte:=by kernel_rfl
 sizeByte:=by kernel_rfl
 neB5:=by decide}
open Go.RowKit Go.Lib in
theorem Tryz.strings_Repeat (s:ByteArray)(c:Nat)(w:World)(hc:c<=9223372036854775807)(hlen:s.size*c<=140737488355328) :
  Calls Tryz.prog 245 #[.string s,.int .i64 c] w λe w'=>e=.returned (.string ⟨(Lib.repeatL s.data.toList c).toArray⟩)/\Below w.heap.size w w':=Any.strings_Repeat Tryz.lays105 Tryz.Builder_Extra_105 s c w hc hlen
end
end Go.Proofs
namespace Go.Proofs.YteecfjhjllajlaaGreatDoor
open Go.Lib (hid)
open Go Go.RowKit
section
open Tr (Bx aa bt eH Ints)
theorem Pg.below {B b:Nat}{t:List UInt8}{w w':World}(h:Pg B b t w)(hb:Below w.heap.size w w'):Pg B b t w':=by
 have aux:∀p,Lib.BuilderAtF 118 5 B b p (Lib.byteCells t) w->Lib.BuilderAtF 118 5 B b p (Lib.byteCells t) w':=λp q=>by
  have hlt:=ui q;obtain⟨hB,v,hv,hown,hne⟩:=q;exact⟨hB,v,(hb.block b hlt).trans hv,hown.kept (row:=none) ⟨hb.os,hb.tape,hb.output,hb.size,λk hk _=>hb.block k hk⟩ (Classical.em _),hne⟩
 rcases h with h |h
 ·exact .inl (aux _ h)
 ·exact .inr (aux _ h)
theorem Kp.below {B b:Nat}{w w':World}(hB:B<=w.heap.size)(hb:Below w.heap.size w w'):Kp B b w w':=⟨hb.mono hB,λk _ hk _ _=>(hb.block k (Array.getElem?_eq_some_iff.1 hk).1).trans hk⟩
theorem kD:Own 117:=⟨_,Tryz.func117,by kernel_rfl,by kernel_rfl⟩
theorem Kj:Own 123:=⟨_,Tryz.func123,by kernel_rfl,by kernel_rfl⟩
theorem Kk:Own 124:=⟨_,Tryz.func124,by kernel_rfl,by kernel_rfl⟩
theorem cZ (b:Nat)(w:World):(Instr.fieldAt 73 (.pointer (some ⟨b,0,none⟩)) 1).run Tryz.prog w=.ok (.pointer (some ⟨b,1,none⟩)) w:=by kernel_rfl
theorem jT (b:Nat)(w:World):(Instr.fieldAt 37 (.pointer (some ⟨b,0,none⟩)) 1).run Tryz.prog w=.ok (.pointer (some ⟨b,1,none⟩)) w:=by kernel_rfl
theorem fF {w:World}{ad:Addr}{F:Fn}{xs ys:Array Value}(h:w.cell? ad=some (.func F xs ys)):(Instr.loadAt 71 (.pointer (some ad))).run Tryz.prog w=.ok (.func F xs ys) w:=by simp[go_sem,h]
section
variable {ops:Array Oper} {Q:Exit->Act->World->Prop} {S:World->Prop} {fuel:Nat} {listed:Array Bool} {a:Act} {w:World} {o:Oper}
theorem kE (i:Nat)(o:Oper){F:Nat}{x:Operand}{xs:Array Operand}{ts:Array TypeId}{pre args:Array Value}{C:Ending->World->Prop}(hF:Own F)(ho:o.op=.call {callee :=.value x,args:=xs,argTypes:=ts})(hi:ops[i]?=some o)(hr:Region.ready .any ops listed=[i])
  (hw:Region.wanted o (yielded ops a.tmps)=true) (hx:a.eval x=.func (.func F) pre #[]) (ha':(xs.toList.map a.eval).toArray=args) (hc:Calls Tryz.prog F (pre++args) w C)
  (h:∀e w',C e w'->(∃ch,e=.panicked ch/\Q (.panic ch) a w')\/∃v,e=.returned v/\S w'/\wpAnyH Tryz.prog .any ops Q S fuel (listed.setIfInBounds i true) (a.put o.dst v) w'):wpAnyH Tryz.prog .any ops Q S (fuel+1) listed a w:=
 dQ i o hi hr hw (by
  have ha:xs.map a.eval=args:=by rw[<- ha'];exact Array.ext' (by rw[Array.toList_map])
  unfold Oper.wp execOp
  have e2:(pre++args:Array Value) ++ #[]=pre++args:=by simp
  simp only[ho,resolve,hx,ha,Deferred.ofValue,invoke,Sem.run_bind,Sem.run_pure,Result.andThen_ok]
  rw[e2,oV hF]
  exact hc.mono λe w' hC=>by
   rcases h e w' hC with⟨ch,rfl,hq⟩ |⟨v,rfl,hq⟩
   ·exact hq
   ·exact hq)
theorem x_ {K:Act->World->Prop}{x:Operand}{s:ByteArray}(ho:o.op=.buildSlice 40 1 #[(0,x)])(hx:a.eval x=.string s)
  (h:K (a.put o.dst (.slice (some ⟨w.heap.size,0,none⟩) 1 1)) (w.alloc (.cells #[.string s] 9))):o.wp Tryz.prog a w K Q:=by
 unfold Oper.wp execOp;simp only[ho,List.map_toArray,List.map_cons,List.map_nil,hx];simp[go_sem];exact h
end
def S2 (g2 g3:Nat)(PB NB:List Value)(w:World):Prop:=Bx w g2 73 PB/\Bx w g3 37 NB
theorem S2.kp {B b g2 g3:Nat}{PB NB:List Value}{w w':World}(h:S2 g2 g3 PB NB w)(q:Kp B b w w')(h2:g2≠b)(h3:g3≠b):S2 g2 g3 PB NB w':=⟨Bx.kp h.1 q h2 (by decide),Bx.kp h.2 q h3 (by decide)⟩
theorem jK (w:World)(PB NB:List Value):S2 w.heap.size (w.heap.size+1) PB NB ((w.alloc (.cells PB.toArray 73)).alloc (.cells NB.toArray 37)):=by
 have b1:=Bx.new w 73 PB;have b2:=Bx.new (w.alloc (.cells PB.toArray 73)) 37 NB;rw[World.size_alloc]at b2;exact⟨b1.alloc _,b2⟩
theorem N8 {w0:World}{A:Option Addr}{l:List Tr.Nd}{n c b f:Nat}(hx:nR w0 A l n)(hr:lH w0 A l n c b f)(d:Int)(p:Nat)(t:List UInt8)(w:World)(hpf:p<f+1)(hp:p<n)(hk:(ag l p).kd=22)(hb:Below w0.heap.size w0 w)(h:Pg w0.heap.size b t w)(hl:t.length+(bE l (f+1) p).length<=140737488355328) :
  Calls Tryz.prog 66 #[PV A n c b d,.int .i64 (p:Int)] w (aK w0.heap.size b (t++bE l (f+1) p) (.tuple #[]) w):=by
 have hpf0:=hpf;clear hpf0;have hpl:p<l.length:=by rw[<- hx.len];exact hp
 have hex:bE l (f+1) p=(ag l p).tx.data.toList:=by simp[bE,hk,bu]
 rw[hex]at hl |-;clear hex;obtain⟨bA,off,K,cK,rfl,hlt,c0,c1,c2,c3,c4,z5⟩:=aZ hx.nds hb p hpl;rw[<- aS hpl]at c0 c1 c2 c3 c4 z5;rw[hk]at c0;have hpz:(p:Int)<(n:Int):=by omega
 have H:=hid h;have HB:=hid hb;have hbw:=h.bw;have hbl:=h.lt;have HL:=hid hl;generalize (ag l p).n=nn at *
 generalize (ag l p).pl=pl at *
 generalize (ag l p).tx=tx at *
 generalize (ag l p).ks.length=nk at *
 clear hk z5 hr hx hb h hl hpl hpf;unfold PV;go_enter Tryz.func66,Tryz.ntmps66
 go_wp2_with (go_at_call 117;refine(aC w0.heap.size b t [tx.data.toList] _ ((H.out.alloc _).alloc _) (by simp;have:=HL.out;simp at this;omega) (by simp) 1 rfl _ (by simp[iq];try rfl) _ (by simp[World.size_alloc])).mono ?_);rintro e w1 ⟨rfl,hp1,hk1⟩;have HP:=hid hp1;have HK:=hid hk1;clear hp1 hk1;go_wp2
 go_end0
 exact⟨rfl,by simpa using HP.out,(((Kp.refl _ b w).alloc hbw _).alloc (by rw[World.size_alloc];omega) _).trans HK.out⟩
theorem N9 {w0:World}{A:Option Addr}{l:List Tr.Nd}{n c b f:Nat}(hx:nR w0 A l n)(hr:lH w0 A l n c b f)(d:Int)(p:Nat)(t:List UInt8)(w:World)(hpf:p<f+1)(hp:p<n)(hk:(ag l p).kd=24)(hb:Below w0.heap.size w0 w)(h:Pg w0.heap.size b t w)(hl:t.length+(bE l (f+1) p).length<=140737488355328) :
  Calls Tryz.prog 66 #[PV A n c b d,.int .i64 (p:Int)] w (aK w0.heap.size b (t++bE l (f+1) p) (.tuple #[]) w):=by
 have hpf0:=hpf;clear hpf0;have hpl:p<l.length:=by rw[<- hx.len];exact hp
 have hex:bE l (f+1) p=[108,101,110,32]++(ag l p).tx.data.toList:=by simp[bE,hk,bu]
 rw[hex]at hl |-;clear hex;obtain⟨bA,off,K,cK,rfl,hlt,c0,c1,c2,c3,c4,z5⟩:=aZ hx.nds hb p hpl;rw[<- aS hpl]at c0 c1 c2 c3 c4 z5;rw[hk]at c0;have hpz:(p:Int)<(n:Int):=by omega
 have H:=hid h;have HB:=hid hb;have hbw:=h.bw;have hbl:=h.lt;have HL:=hid hl;generalize (ag l p).n=nn at *
 generalize (ag l p).pl=pl at *
 generalize (ag l p).tx=tx at *
 generalize (ag l p).ks.length=nk at *
 clear hk z5 hr hx hb h hl hpl hpf;unfold PV;go_enter Tryz.func66,Tryz.ntmps66
 go_wp2_with (go_at_call 117;refine(aC w0.heap.size b t [[108,101,110,32],tx.data.toList] _ ((H.out.alloc _).alloc _) (by simp;have:=HL.out;simp at this;omega) (by simp) 2 rfl _ (by simp[iq];try rfl) _ (by simp[World.size_alloc])).mono ?_);rintro e w1 ⟨rfl,hp1,hk1⟩;have HP:=hid hp1;have HK:=hid hk1;clear hp1 hk1;go_wp2
 go_end0
 exact⟨rfl,by simpa using HP.out,(((Kp.refl _ b w).alloc hbw _).alloc (by rw[World.size_alloc];omega) _).trans HK.out⟩
theorem Kl {w0:World}{A:Option Addr}{l:List Tr.Nd}{n c b f:Nat}(hx:nR w0 A l n)(hr:lH w0 A l n c b f)(d:Int)(p:Nat)(t:List UInt8)(w:World)(hpf:p<f+1)(hp:p<n)(hk:(ag l p).kd=25)(hb:Below w0.heap.size w0 w)(h:Pg w0.heap.size b t w)(hl:t.length+(bE l (f+1) p).length<=140737488355328) :
  Calls Tryz.prog 66 #[PV A n c b d,.int .i64 (p:Int)] w (aK w0.heap.size b (t++bE l (f+1) p) (.tuple #[]) w):=by
 have hpf0:=hpf;clear hpf0;have hpl:p<l.length:=by rw[<- hx.len];exact hp
 have hex:bE l (f+1) p=[38]++(ag l p).tx.data.toList:=by simp[bE,hk,bu]
 rw[hex]at hl |-;clear hex;obtain⟨bA,off,K,cK,rfl,hlt,c0,c1,c2,c3,c4,z5⟩:=aZ hx.nds hb p hpl;rw[<- aS hpl]at c0 c1 c2 c3 c4 z5;rw[hk]at c0;have hpz:(p:Int)<(n:Int):=by omega
 have H:=hid h;have HB:=hid hb;have hbw:=h.bw;have hbl:=h.lt;have HL:=hid hl;generalize (ag l p).n=nn at *
 generalize (ag l p).pl=pl at *
 generalize (ag l p).tx=tx at *
 generalize (ag l p).ks.length=nk at *
 clear hk z5 hr hx hb h hl hpl hpf;unfold PV;go_enter Tryz.func66,Tryz.ntmps66
 go_wp2_with (go_at_call 117;refine(aC w0.heap.size b t [[38],tx.data.toList] _ ((H.out.alloc _).alloc _) (by simp;have:=HL.out;simp at this;omega) (by simp) 2 rfl _ (by simp[iq];try rfl) _ (by simp[World.size_alloc])).mono ?_);rintro e w1 ⟨rfl,hp1,hk1⟩;have HP:=hid hp1;have HK:=hid hk1;clear hp1 hk1;go_wp2
 go_end0
 exact⟨rfl,by simpa using HP.out,(((Kp.refl _ b w).alloc hbw _).alloc (by rw[World.size_alloc];omega) _).trans HK.out⟩
theorem Gg {w0:World}{A:Option Addr}{l:List Tr.Nd}{n c b f:Nat}(hx:nR w0 A l n)(hr:lH w0 A l n c b f)(d:Int)(p:Nat)(t:List UInt8)(w:World)(hpf:p<f+1)(hp:p<n)(hk:(ag l p).kd=23)(hb:Below w0.heap.size w0 w)(h:Pg w0.heap.size b t w)(hl:t.length+(bE l (f+1) p).length<=140737488355328) :
  Calls Tryz.prog 66 #[PV A n c b d,.int .i64 (p:Int)] w (aK w0.heap.size b (t++bE l (f+1) p) (.tuple #[]) w):=by
 have hpf0:=hpf;clear hpf0;have hpl:p<l.length:=by rw[<- hx.len];exact hp
 have hex:bE l (f+1) p=(ag l p).tx.data.toList++[91]++bE l f (aL l p 0)++[93]:=by simp[bE,hk,bu]
 rw[hex]at hl |-;clear hex;obtain⟨bA,off,K,cK,rfl,hlt,c0,c1,c2,c3,c4,z5⟩:=aZ hx.nds hb p hpl;rw[<- aS hpl]at c0 c1 c2 c3 c4 z5;rw[hk]at c0;have hpz:(p:Int)<(n:Int):=by omega
 have H:=hid h;have HB:=hid hb;have hbw:=h.bw;have hbl:=h.lt;have HL:=hid hl;obtain⟨k,hks,hkp,hke⟩:=hx.ex.one p hpl (.inl hk);have hkid:aL l p 0=(k:Int):=by unfold aL;rw[hks];rfl
 rw[hkid]at hl |-;have HL:=hid hl;rw[hks]at c4 z5;have c4:w.cell? ⟨bA,off+p*5+4,none⟩=some (.slice K 1 cK):=c4;obtain⟨bk,ok,rfl,hbk,hck0⟩:=z5 (by simp);have hck:w0.cell? ⟨bk,ok,none⟩=some (.int .i64 (k:Int)):=hck0 0 (by simp);have hkf:k<f:=by omega
 have hkn:k<n:=by omega
 clear hkid hks hck0;have HE:=hid (λw' (q:Below w0.heap.size w0 w') (h':Pg w0.heap.size b t w')=>uO hr d 23 (ag l p).n (ag l p).pl (ag l p).tx bk ok 1 cK k t w' hkf hkn hke q h' (by decide) hbk hck hl);unfold PV at HE;unfold PV;generalize bE l f k=y at *
 generalize (ag l p).n=nn at *
 generalize (ag l p).pl=pl at *
 generalize (ag l p).tx=tx at *
 clear hk hr hx hb h hl hpl hpf hke hck;go_enter Tryz.func66,Tryz.ntmps66
 go_wp2_with (go_at_call 125;refine(HE.out _ ((HB.out.alloc hbw _).alloc (by rw[World.size_alloc];omega) _) ((H.out.alloc _).alloc _)).mono ?_);rintro e w1 ⟨rfl,hp1,hk1⟩;have HP:=hid hp1;have HK:=hid hk1;clear hp1 hk1;go_wp2
 go_end0
 exact⟨rfl,HP.out,(((Kp.refl _ b w).alloc hbw _).alloc (by rw[World.size_alloc];omega) _).trans HK.out⟩
theorem Gh {w0:World}{A:Option Addr}{l:List Tr.Nd}{n c b f:Nat}(hx:nR w0 A l n)(hr:lH w0 A l n c b f)(d:Int)(p:Nat)(t:List UInt8)(w:World)(hpf:p<f+1)(hp:p<n)(hk:(ag l p).kd=20)(hb:Below w0.heap.size w0 w)(h:Pg w0.heap.size b t w)(hl:t.length+(bE l (f+1) p).length<=140737488355328) :
  Calls Tryz.prog 66 #[PV A n c b d,.int .i64 (p:Int)] w (aK w0.heap.size b (t++bE l (f+1) p) (.tuple #[]) w):=by
 have hpf0:=hpf;clear hpf0;have hpl:p<l.length:=by rw[<- hx.len];exact hp
 have hex:bE l (f+1) p=Lib.itoa (ag l p).n:=by simp[bE,hk]
 rw[hex]at hl |-;clear hex;obtain⟨bA,off,K,cK,rfl,hlt,c0,c1,c2,c3,c4,z5⟩:=aZ hx.nds hb p hpl;rw[<- aS hpl]at c0 c1 c2 c3 c4 z5;rw[hk]at c0;have hpz:(p:Int)<(n:Int):=by omega
 have H:=hid h;have HB:=hid hb;have hbw:=h.bw;have hbl:=h.lt;have HL:=hid hl;have HC:=hid (λw' (q:Below w0.heap.size w0 w')=>hx.tab w' q);have HX:=hid (jK w [.slice (some ⟨bA,off,none⟩) n c,.func (.func 117) #[.pointer (some ⟨b,0,none⟩)] #[],.int .i64 d] [.int .i64 20,.int .i64 (ag l p).n,.int .i64 (ag l p).pl,.string (ag l p).tx,.slice K (ag l p).ks.length cK]);have HW:=hid (((Kp.refl w0.heap.size b w).alloc hbw (.cells #[.slice (some ⟨bA,off,none⟩) n c,.func (.func 117) #[.pointer (some ⟨b,0,none⟩)] #[],.int .i64 d] 73)).alloc (by rw[World.size_alloc];omega) (.cells #[.int .i64 20,.int .i64 (ag l p).n,.int .i64 (ag l p).pl,.string (ag l p).tx,.slice K (ag l p).ks.length cK] 37));have HNN:=hid (hx.ex.num p hpl hk);generalize (ag l p).n=nn at *
 generalize (ag l p).pl=pl at *
 generalize (ag l p).tx=tx at *
 generalize (ag l p).ks.length=nk at *
 clear hk z5 hr hx hb h hl hpl hpf;unfold PV;go_enter Tryz.func66,Tryz.ntmps66
 go_upto_region 4 with(fail)
 obtain⟨W4,hW4⟩:∃W4:World,((w.alloc (.cells #[.slice (some ⟨bA,off,none⟩) n c,.func (.func 117) #[.pointer (some ⟨b,0,none⟩)] #[],.int .i64 d] 73)).alloc (.cells #[.int .i64 20,.int .i64 nn,.int .i64 pl,.string tx,.slice K nk cK] 37))=W4:=⟨_,rfl⟩;have hX:=HX.out;have hW:=HW.out;have hP4:=(H.out.alloc (.cells #[.slice (some ⟨bA,off,none⟩) n c,.func (.func 117) #[.pointer (some ⟨b,0,none⟩)] #[],.int .i64 d] 73)).alloc (.cells #[.int .i64 20,.int .i64 nn,.int .i64 pl,.string tx,.slice K nk cK] 37);rw[hW4]at hW hP4;have hX:S2 w.heap.size (w.heap.size+1) [.slice (some ⟨bA,off,none⟩) n c,.func (.func 117) #[.pointer (some ⟨b,0,none⟩)] #[],.int .i64 d] [.int .i64 20,.int .i64 nn,.int .i64 pl,.string tx,.slice K nk cK] W4:=hW4▸hX;rw[hW4];obtain⟨W5,hW5⟩:∃W5:World,{W4 with drawn:=W4.drawn+1}=W5:=⟨_,rfl⟩;have hkd:Kp w0.heap.size b W4 W5:=by rw[<- hW5];exact⟨Below.drew (Below.refl _ _),(Lib.OthersKept.refl _ _ W4).drew⟩
 have hS:S2 w.heap.size (w.heap.size+1) [.slice (some ⟨bA,off,none⟩) n c,.func (.func 117) #[.pointer (some ⟨b,0,none⟩)] #[],.int .i64 d] [.int .i64 20,.int .i64 nn,.int .i64 pl,.string tx,.slice K nk cK] W5:=hX.kp hkd (by omega) (by omega);have hP5:Pg w0.heap.size b t W5:=by rw[<- hW5];exact hP4
 have hw5:=hW.trans hkd;have hB5:=hP5.bw;refine wp_region_held (S:=S2 w.heap.size (w.heap.size+1) [.slice (some ⟨bA,off,none⟩) n c,.func (.func 117) #[.pointer (some ⟨b,0,none⟩)] #[],.int .i64 d] [.int .i64 20,.int .i64 nn,.int .i64 pl,.string tx,.slice K nk cK]) (by kernel_rfl) ?_;rw[hW5];clear hW5 hX hW hP4 HX HW hW4;refine aG 0 (.pointer (some ⟨w.heap.size,1,none⟩)) (by kernel_rfl) rfl rfl (λ_ _ _ h=>h) rfl (ay rfl rfl (cZ _)) hS ?_;simp only[ap];refine aG 1 (.func (.func 117) #[.pointer (some ⟨b,0,none⟩)] #[]) (by kernel_rfl) rfl rfl (λ_ _ _ h=>h) rfl (ak rfl rfl (λw' q=>fF ((q.1.cell 1).trans rfl))) hS ?_;simp only[ap];refine aG 2 (.pointer (some ⟨w.heap.size+1,1,none⟩)) (by kernel_rfl) rfl rfl (λ_ _ _ h=>h) rfl (ay rfl rfl (jT _)) hS ?_;simp only[ap];refine aG 3 (.int .i64 nn) (by kernel_rfl) rfl rfl (λ_ _ _ h=>h) rfl (ak rfl rfl (λw' q=>aB ((q.2.cell 1).trans rfl))) hS ?_;simp only[ap]
 refine aQ 4 ({dst:=some 18,op:=Op.call {callee:=Callee.value (Operand.func 123),args := #[Operand.tmp 17],argTypes := #[3]},type:=9,pos := "printer.go:191",after := #[{on:=3,ground:=Ground.data}],guard:=none}:Oper) (args := #[.int .i64 nn]) Kj rfl rfl (by kernel_rfl) rfl rfl ((Tryz.strconv_Itoa nn (by have:=HNN.out;omega) HNN.out.2 W5 (HC.out _ (Kp.w0 HB.out hw5))).mono λe w' ⟨q1,k,os,q2⟩=>(⟨q1,by rw[q2];exact Lib.below_grow _ _ (Nat.le_refl _) k os⟩:e=Ending.returned (.string ⟨(Lib.itoa nn).toArray⟩)/\Below W5.heap.size W5 w')) ?_;rintro e w2 ⟨rfl,hb2⟩;have hk2:Kp w0.heap.size b W5 w2:=Kp.below hB5 hb2;have hS2:=hS.kp hk2 (by omega) (by omega);have hP2:=hP5.below hb2;refine .inr ⟨_,rfl,hS2,?_⟩;simp only[ap];have hS3:S2 w.heap.size (w.heap.size+1) [.slice (some ⟨bA,off,none⟩) n c,.func (.func 117) #[.pointer (some ⟨b,0,none⟩)] #[],.int .i64 d] [.int .i64 20,.int .i64 nn,.int .i64 pl,.string tx,.slice K nk cK] (w2.alloc (.cells #[.string (lZ (Lib.itoa nn))] 9)):=⟨hS2.1.alloc _,hS2.2.alloc _⟩;refine dQ 5 ({dst:=some 19,op:=Op.buildSlice 40 1 #[(0,Operand.tmp 18)],type:=40,pos := "printer.go:191",after := #[{on:=4,ground:=Ground.data}],guard:=none}:Oper) rfl (by kernel_rfl) rfl (x_ rfl rfl ⟨hS3,?_⟩);simp only[ap]
 refine kE 6 ({dst:=some 20,op:=Op.call {callee:=Callee.value (Operand.tmp 15),args := #[Operand.tmp 19],argTypes := #[40]},type:=0,pos := "printer.go:191",after := #[{on:=1,ground:=Ground.data},{on:=5,ground:=Ground.data},{on:=4,ground:=Ground.chain}],guard:=none}:Oper) (pre := #[.pointer (some ⟨b,0,none⟩)]) (args := #[.slice (some ⟨w2.heap.size,0,none⟩) 1 1]) kD rfl rfl (by kernel_rfl) rfl rfl rfl (aC w0.heap.size b t [Lib.itoa nn] w2 hP2 (by simp;exact HL.out) (by simp) 1 rfl _ (by rfl) _ rfl) ?_;rintro e w3 ⟨rfl,hp3,hk3⟩;have hS4:=hS2.kp hk3 (by omega) (by omega);refine .inr ⟨_,rfl,hS4,?_⟩;simp only[ap];refine wpAnyH_done (by kernel_rfl) ?_ _;have HP:=hid hp3;have HK:=hid ((hw5.trans hk2).trans hk3);clear hS hS2 hS3 hS4 hP5 hP2 hw5 hk2 hk3 hp3 hb2 hkd hB5;go_wp2
 go_end0
 exact⟨rfl,by simpa using HP.out,HK.out⟩
theorem Gi {w0:World}{A:Option Addr}{l:List Tr.Nd}{n c b f:Nat}(hx:nR w0 A l n)(hr:lH w0 A l n c b f)(d:Int)(p:Nat)(t:List UInt8)(w:World)(hpf:p<f+1)(hp:p<n)(hk:(ag l p).kd=21)(hb:Below w0.heap.size w0 w)(h:Pg w0.heap.size b t w)(hl:t.length+(bE l (f+1) p).length<=140737488355328) :
  Calls Tryz.prog 66 #[PV A n c b d,.int .i64 (p:Int)] w (aK w0.heap.size b (t++bE l (f+1) p) (.tuple #[]) w):=by
 have hpf0:=hpf;clear hpf0;have hpl:p<l.length:=by rw[<- hx.len];exact hp
 have hex:bE l (f+1) p=Lib.formatBool ((ag l p).n==1):=by simp[bE,hk]
 rw[hex]at hl |-;clear hex;obtain⟨bA,off,K,cK,rfl,hlt,c0,c1,c2,c3,c4,z5⟩:=aZ hx.nds hb p hpl;rw[<- aS hpl]at c0 c1 c2 c3 c4 z5;rw[hk]at c0;have hpz:(p:Int)<(n:Int):=by omega
 have H:=hid h;have HB:=hid hb;have hbw:=h.bw;have hbl:=h.lt;have HL:=hid hl;have HC:=hid (λw' (q:Below w0.heap.size w0 w')=>hx.tab w' q);have HX:=hid (jK w [.slice (some ⟨bA,off,none⟩) n c,.func (.func 117) #[.pointer (some ⟨b,0,none⟩)] #[],.int .i64 d] [.int .i64 21,.int .i64 (ag l p).n,.int .i64 (ag l p).pl,.string (ag l p).tx,.slice K (ag l p).ks.length cK]);have HW:=hid (((Kp.refl w0.heap.size b w).alloc hbw (.cells #[.slice (some ⟨bA,off,none⟩) n c,.func (.func 117) #[.pointer (some ⟨b,0,none⟩)] #[],.int .i64 d] 73)).alloc (by rw[World.size_alloc];omega) (.cells #[.int .i64 21,.int .i64 (ag l p).n,.int .i64 (ag l p).pl,.string (ag l p).tx,.slice K (ag l p).ks.length cK] 37));generalize (ag l p).n=nn at *
 generalize (ag l p).pl=pl at *
 generalize (ag l p).tx=tx at *
 generalize (ag l p).ks.length=nk at *
 clear hk z5 hr hx hb h hl hpl hpf;unfold PV;go_enter Tryz.func66,Tryz.ntmps66
 go_upto_region 6 with(fail)
 obtain⟨W4,hW4⟩:∃W4:World,((w.alloc (.cells #[.slice (some ⟨bA,off,none⟩) n c,.func (.func 117) #[.pointer (some ⟨b,0,none⟩)] #[],.int .i64 d] 73)).alloc (.cells #[.int .i64 21,.int .i64 nn,.int .i64 pl,.string tx,.slice K nk cK] 37))=W4:=⟨_,rfl⟩;have hX:=HX.out;have hW:=HW.out;have hP4:=(H.out.alloc (.cells #[.slice (some ⟨bA,off,none⟩) n c,.func (.func 117) #[.pointer (some ⟨b,0,none⟩)] #[],.int .i64 d] 73)).alloc (.cells #[.int .i64 21,.int .i64 nn,.int .i64 pl,.string tx,.slice K nk cK] 37);rw[hW4]at hW hP4;have hX:S2 w.heap.size (w.heap.size+1) [.slice (some ⟨bA,off,none⟩) n c,.func (.func 117) #[.pointer (some ⟨b,0,none⟩)] #[],.int .i64 d] [.int .i64 21,.int .i64 nn,.int .i64 pl,.string tx,.slice K nk cK] W4:=hW4▸hX;rw[hW4];obtain⟨W5,hW5⟩:∃W5:World,{W4 with drawn:=W4.drawn+1}=W5:=⟨_,rfl⟩;have hkd:Kp w0.heap.size b W4 W5:=by rw[<- hW5];exact⟨Below.drew (Below.refl _ _),(Lib.OthersKept.refl _ _ W4).drew⟩
 have hS:S2 w.heap.size (w.heap.size+1) [.slice (some ⟨bA,off,none⟩) n c,.func (.func 117) #[.pointer (some ⟨b,0,none⟩)] #[],.int .i64 d] [.int .i64 21,.int .i64 nn,.int .i64 pl,.string tx,.slice K nk cK] W5:=hX.kp hkd (by omega) (by omega);have hP5:Pg w0.heap.size b t W5:=by rw[<- hW5];exact hP4
 have hw5:=hW.trans hkd;have hB5:=hP5.bw;refine wp_region_held (S:=S2 w.heap.size (w.heap.size+1) [.slice (some ⟨bA,off,none⟩) n c,.func (.func 117) #[.pointer (some ⟨b,0,none⟩)] #[],.int .i64 d] [.int .i64 21,.int .i64 nn,.int .i64 pl,.string tx,.slice K nk cK]) (by kernel_rfl) ?_;rw[hW5];clear hW5 hX hW hP4 HX HW hW4;refine aG 0 (.pointer (some ⟨w.heap.size,1,none⟩)) (by kernel_rfl) rfl rfl (λ_ _ _ h=>h) rfl (ay rfl rfl (cZ _)) hS ?_;simp only[ap];refine aG 1 (.func (.func 117) #[.pointer (some ⟨b,0,none⟩)] #[]) (by kernel_rfl) rfl rfl (λ_ _ _ h=>h) rfl (ak rfl rfl (λw' q=>fF ((q.1.cell 1).trans rfl))) hS ?_;simp only[ap];refine aG 2 (.pointer (some ⟨w.heap.size+1,1,none⟩)) (by kernel_rfl) rfl rfl (λ_ _ _ h=>h) rfl (ay rfl rfl (jT _)) hS ?_;simp only[ap];refine aG 3 (.int .i64 nn) (by kernel_rfl) rfl rfl (λ_ _ _ h=>h) rfl (ak rfl rfl (λw' q=>aB ((q.2.cell 1).trans rfl))) hS ?_;simp only[ap];refine aG 4 (.bool (nn==1)) (by kernel_rfl) rfl rfl (λ_ _ _ h=>h) rfl (wK rfl rfl rfl (λw=>by simp[go_sem]) (λw=>by simp[go_sem])) hS ?_;simp only[ap]
 refine aQ 5 ({dst:=some 28,op:=Op.call {callee:=Callee.value (Operand.func 124),args := #[Operand.tmp 27],argTypes := #[4]},type:=9,pos := "printer.go:193",after := #[{on:=4,ground:=Ground.data}],guard:=none}:Oper) (args := #[.bool (nn==1)]) Kk rfl rfl (by kernel_rfl) rfl rfl ((Tryz.strconv_FormatBool (nn==1) W5).mono λe w' ⟨q1,q2⟩=>(⟨q1,by rw[q2];exact Below.refl _ _⟩:e=Ending.returned (.string ⟨(Lib.formatBool (nn==1)).toArray⟩)/\Below W5.heap.size W5 w')) ?_;rintro e w2 ⟨rfl,hb2⟩;have hk2:Kp w0.heap.size b W5 w2:=Kp.below hB5 hb2;have hS2:=hS.kp hk2 (by omega) (by omega);have hP2:=hP5.below hb2;refine .inr ⟨_,rfl,hS2,?_⟩;simp only[ap];have hS3:S2 w.heap.size (w.heap.size+1) [.slice (some ⟨bA,off,none⟩) n c,.func (.func 117) #[.pointer (some ⟨b,0,none⟩)] #[],.int .i64 d] [.int .i64 21,.int .i64 nn,.int .i64 pl,.string tx,.slice K nk cK] (w2.alloc (.cells #[.string (lZ (Lib.formatBool (nn==1)))] 9)):=⟨hS2.1.alloc _,hS2.2.alloc _⟩;refine dQ 6 ({dst:=some 29,op:=Op.buildSlice 40 1 #[(0,Operand.tmp 28)],type:=40,pos := "printer.go:193",after := #[{on:=5,ground:=Ground.data}],guard:=none}:Oper) rfl (by kernel_rfl) rfl (x_ rfl rfl ⟨hS3,?_⟩);simp only[ap]
 refine kE 7 ({dst:=some 30,op:=Op.call {callee:=Callee.value (Operand.tmp 24),args := #[Operand.tmp 29],argTypes := #[40]},type:=0,pos := "printer.go:193",after := #[{on:=1,ground:=Ground.data},{on:=6,ground:=Ground.data},{on:=5,ground:=Ground.chain}],guard:=none}:Oper) (pre := #[.pointer (some ⟨b,0,none⟩)]) (args := #[.slice (some ⟨w2.heap.size,0,none⟩) 1 1]) kD rfl rfl (by kernel_rfl) rfl rfl rfl (aC w0.heap.size b t [Lib.formatBool (nn==1)] w2 hP2 (by simp;exact HL.out) (by simp) 1 rfl _ (by rfl) _ rfl) ?_;rintro e w3 ⟨rfl,hp3,hk3⟩;have hS4:=hS2.kp hk3 (by omega) (by omega);refine .inr ⟨_,rfl,hS4,?_⟩;simp only[ap];refine wpAnyH_done (by kernel_rfl) ?_ _;have HP:=hid hp3;have HK:=hid ((hw5.trans hk2).trans hk3);clear hS hS2 hS3 hS4 hP5 hP2 hw5 hk2 hk3 hp3 hb2 hkd hB5;go_wp2
 go_end0
 exact⟨rfl,by simpa using HP.out,HK.out⟩
end
section
open Tr (Bx aa bt eH Ints)
theorem Gj {w0:World}{A:Option Addr}{l:List Tr.Nd}{n c b f:Nat}(hx:nR w0 A l n)(hr:lH w0 A l n c b f)(d:Int)(p:Nat)(t:List UInt8)(w:World)(hpf:p<f+1)(hp:p<n)(hk:(ag l p).kd=26)(hb:Below w0.heap.size w0 w)(h:Pg w0.heap.size b t w)(hl:t.length+(bE l (f+1) p).length<=140737488355328) :
  Calls Tryz.prog 66 #[PV A n c b d,.int .i64 (p:Int)] w (aK w0.heap.size b (t++bE l (f+1) p) (.tuple #[]) w):=by
 have hpf0:=hpf;clear hpf0;have hpl:p<l.length:=by rw[<- hx.len];exact hp
 have hex:bE l (f+1) p=(ag l p).tx.data.toList++qW l (bE l f) (aL l p 0):=by simp[bE,hk,bu]
 rw[hex]at hl |-;clear hex;obtain⟨bA,off,K,cK,rfl,hlt,c0,c1,c2,c3,c4,z5⟩:=aZ hx.nds hb p hpl;rw[<- aS hpl]at c0 c1 c2 c3 c4 z5;rw[hk]at c0;have hpz:(p:Int)<(n:Int):=by omega
 have H:=hid h;have HB:=hid hb;have hbw:=h.bw;have hbl:=h.lt;have HL:=hid hl;obtain⟨k,hks,hkp,hke⟩:=hx.ex.one p hpl (.inr hk);have hkid:aL l p 0=(k:Int):=by unfold aL;rw[hks];rfl
 rw[hkid]at hl |-;have HL:=hid hl;rw[hks]at c4 z5;have c4:w.cell? ⟨bA,off+p*5+4,none⟩=some (.slice K 1 cK):=c4;obtain⟨bk,ok,rfl,hbk,hck0⟩:=z5 (by simp);have hck:w0.cell? ⟨bk,ok,none⟩=some (.int .i64 (k:Int)):=hck0 0 (by simp);have hkf:k<f:=by omega
 have hkn:k<n:=by omega
 clear hkid hks hck0;have HO:=hid (λt' w' (q:Below w0.heap.size w0 w') (h':Pg w0.heap.size b t' w') (hl':t'.length+(qW l (bE l f) k).length<=140737488355328)=>p8 hx hr d k t' w' hkf hkn hke q h' hl');unfold PV at HO;unfold PV;generalize qW l (bE l f) (k:Int)=y at *
 generalize (ag l p).n=nn at *
 generalize (ag l p).pl=pl at *
 generalize (ag l p).tx=tx at *
 have HX1:=hid (show SP w.heap.size (w.heap.size+1) [.slice (some ⟨bA,off,none⟩) n c,.func (.func 117) #[.pointer (some ⟨b,0,none⟩)] #[],.int .i64 d] [.int .i64 26,.int .i64 nn,.int .i64 pl,.string tx,.slice (some ⟨bk,ok,none⟩) 1 cK] bk ok (k:Int) ((w.alloc (.cells #[.slice (some ⟨bA,off,none⟩) n c,.func (.func 117) #[.pointer (some ⟨b,0,none⟩)] #[],.int .i64 d] 73)).alloc (.cells #[.int .i64 26,.int .i64 nn,.int .i64 pl,.string tx,.slice (some ⟨bk,ok,none⟩) 1 cK] 37)) by
  have b1:=Bx.new w 73 [.slice (some ⟨bA,off,none⟩) n c,.func (.func 117) #[.pointer (some ⟨b,0,none⟩)] #[],.int .i64 d]
  have b2:=Bx.new (w.alloc (.cells #[.slice (some ⟨bA,off,none⟩) n c,.func (.func 117) #[.pointer (some ⟨b,0,none⟩)] #[],.int .i64 d] 73)) 37 [.int .i64 26,.int .i64 nn,.int .i64 pl,.string tx,.slice (some ⟨bk,ok,none⟩) 1 cK]
  have b3:=b1.alloc (.cells #[.int .i64 26,.int .i64 nn,.int .i64 pl,.string tx,.slice (some ⟨bk,ok,none⟩) 1 cK] 37)
  rw[World.size_alloc]at b2
  refine⟨b3,b2,?_⟩
  have hb2:Below w0.heap.size w0 ((w.alloc (.cells #[.slice (some ⟨bA,off,none⟩) n c,.func (.func 117) #[.pointer (some ⟨b,0,none⟩)] #[],.int .i64 d] 73)).alloc (.cells #[.int .i64 26,.int .i64 nn,.int .i64 pl,.string tx,.slice (some ⟨bk,ok,none⟩) 1 cK] 37)):=(HB.out.alloc hbw _).alloc (by rw[World.size_alloc];omega) _
  exact(hb2.cell (p:=⟨bk,ok,none⟩) hbk).trans hck)
 have HW1:=hid (((Kp.refl w0.heap.size b w).alloc hbw (.cells #[.slice (some ⟨bA,off,none⟩) n c,.func (.func 117) #[.pointer (some ⟨b,0,none⟩)] #[],.int .i64 d] 73)).alloc (by rw[World.size_alloc];omega) (.cells #[.int .i64 26,.int .i64 nn,.int .i64 pl,.string tx,.slice (some ⟨bk,ok,none⟩) 1 cK] 37));clear hk hr hx hb h hl hpl hpf hke hck;go_enter Tryz.func66,Tryz.ntmps66
 go_wp2_with (go_at_call 117;refine(aC w0.heap.size b t [tx.data.toList] _ ((H.out.alloc _).alloc _) (by simp;have:=HL.out;simp at this;omega) (by simp) 1 rfl _ (by simp[iq]) _ (by simp[World.size_alloc])).mono ?_);rintro e w1 ⟨rfl,hp1,hk1⟩;have HS2:=hid (HX1.out.kp hk1 (by omega) (by omega) hbk);have HP2:=hid hp1;have HW2:=hid (HW1.out.trans hk1);clear HX1 HW1 hp1 hk1
 go_upto_region 17 with(fail)
 obtain⟨W5,hW5⟩:∃W5:World,{w1 with drawn:=w1.drawn+1}=W5:=⟨_,rfl⟩;have hkd:Kp w0.heap.size b w1 W5:=by rw[<- hW5];exact⟨Below.drew (Below.refl _ _),(Lib.OthersKept.refl _ _ w1).drew⟩
 have hS:SP w.heap.size (w.heap.size+1) [.slice (some ⟨bA,off,none⟩) n c,.func (.func 117) #[.pointer (some ⟨b,0,none⟩)] #[],.int .i64 d] [.int .i64 26,.int .i64 nn,.int .i64 pl,.string tx,.slice (some ⟨bk,ok,none⟩) 1 cK] bk ok (k:Int) W5:=HS2.out.kp hkd (by omega) (by omega) hbk;have hP5:Pg w0.heap.size b (t++[tx.data.toList].flatten) W5:=by rw[<- hW5];exact HP2.out
 have hw5:=HW2.out.trans hkd;refine wp_region_held (S:=SP w.heap.size (w.heap.size+1) [.slice (some ⟨bA,off,none⟩) n c,.func (.func 117) #[.pointer (some ⟨b,0,none⟩)] #[],.int .i64 d] [.int .i64 26,.int .i64 nn,.int .i64 pl,.string tx,.slice (some ⟨bk,ok,none⟩) 1 cK] bk ok (k:Int)) (by kernel_rfl) ?_;rw[hW5];clear hW5;refine aG 0 (.agg #[.slice (some ⟨bA,off,none⟩) n c,.func (.func 117) #[.pointer (some ⟨b,0,none⟩)] #[],.int .i64 d]) (by kernel_rfl) rfl rfl (λ_ _ _ h=>h) rfl (ak rfl rfl (λw' q=>aV ((q.1.cell 0).trans rfl) ((q.1.cell 1).trans rfl) ((q.1.cell 2).trans rfl))) hS ?_;simp only[ap];refine aG 1 (.pointer (some ⟨w.heap.size+1,4,none⟩)) (by kernel_rfl) rfl rfl (λ_ _ _ h=>h) rfl (ay rfl rfl (aD _)) hS ?_;simp only[ap];refine aG 2 (.slice (some ⟨bk,ok,none⟩) 1 cK) (by kernel_rfl) rfl rfl (λ_ _ _ h=>h) rfl (ak rfl rfl (λw' q=>aH ((q.2.1.cell 4).trans rfl))) hS ?_;simp only[ap];refine aG 3 (.pointer (some ⟨bk,ok+0,none⟩)) (by kernel_rfl) rfl rfl (λ_ _ _ h=>h) rfl (bq rfl rfl rfl (λw=>aN bk ok 1 cK 0 (by decide) w)) hS ?_;simp only[ap];refine aG 4 (.int .i64 (k:Int)) (by kernel_rfl) rfl rfl (λ_ _ _ h=>h) rfl (ak rfl rfl (λw' q=>aB q.2.2)) hS ?_;simp only[ap]
 refine aQ 5 ({dst:=some 73,op:=Op.call {callee:=Callee.value (Operand.func 126),args := #[Operand.tmp 68,Operand.tmp 72],argTypes := #[73,3]},type:=0,pos := "printer.go:204",after := #[{on:=0,ground:=Ground.data},{on:=4,ground:=Ground.data}],guard:=none}:Oper) (args := #[.agg #[.slice (some ⟨bA,off,none⟩) n c,.func (.func 117) #[.pointer (some ⟨b,0,none⟩)] #[],.int .i64 d],.int .i64 (k:Int)]) xZ rfl rfl (by kernel_rfl) rfl rfl (HO.out _ _ (Kp.w0 HB.out hw5) hP5 (by simp;have:=HL.out;simp at this;omega)) ?_;rintro e w2 ⟨rfl,hp2,hk2⟩;have hS2:=hS.kp hk2 (by omega) (by omega) hbk;refine .inr ⟨_,rfl,hS2,?_⟩;simp only[ap];refine wpAnyH_done (by kernel_rfl) ?_ _;have HP3:=hid hp2;have HW3:=hid (hw5.trans hk2);clear hS hP5 hw5 hkd HS2 HP2 HW2 hp2 hk2 hS2;go_wp2
 go_end0
 exact⟨rfl,by simpa using HP3.out,HW3.out⟩
theorem Ef {w0:World}{A:Option Addr}{l:List Tr.Nd}{n c b f:Nat}(hx:nR w0 A l n)(hr:lH w0 A l n c b f)(d:Int)(p:Nat)(t:List UInt8)(w:World)(hpf:p<f+1)(hp:p<n)(hk:(ag l p).kd=27)(hb:Below w0.heap.size w0 w)(h:Pg w0.heap.size b t w)(hl:t.length+(bE l (f+1) p).length<=140737488355328) :
  Calls Tryz.prog 66 #[PV A n c b d,.int .i64 (p:Int)] w (aK w0.heap.size b (t++bE l (f+1) p) (.tuple #[]) w):=by
 have hpf0:=hpf;clear hpf0;have hpl:p<l.length:=by rw[<- hx.len];exact hp
 have hex:bE l (f+1) p=qW l (bE l f) (aL l p 0)++[32]++(ag l p).tx.data.toList++[32]++qW l (bE l f) (aL l p 1):=by simp[bE,hk,bu]
 rw[hex]at hl |-;clear hex;obtain⟨bA,off,K,cK,rfl,hlt,c0,c1,c2,c3,c4,z5⟩:=aZ hx.nds hb p hpl;rw[<- aS hpl]at c0 c1 c2 c3 c4 z5;rw[hk]at c0;have hpz:(p:Int)<(n:Int):=by omega
 have H:=hid h;have HB:=hid hb;have hbw:=h.bw;have hbl:=h.lt;have HL:=hid hl;obtain⟨k,j,hks,hkp,hjp,hke,hje⟩:=hx.ex.two p hpl hk;have hkid:aL l p 0=(k:Int):=by unfold aL;rw[hks];rfl
 have hjid:aL l p 1=(j:Int):=by unfold aL;rw[hks];rfl
 rw[hkid,hjid]at hl |-;have HL:=hid hl;rw[hks]at c4 z5;have c4:w.cell? ⟨bA,off+p*5+4,none⟩=some (.slice K 2 cK):=c4;obtain⟨bk,ok,rfl,hbk,hck0⟩:=z5 (by simp);have hck:w0.cell? ⟨bk,ok,none⟩=some (.int .i64 (k:Int)):=hck0 0 (by simp);have hcj:w0.cell? ⟨bk,ok+1,none⟩=some (.int .i64 (j:Int)):=hck0 1 (by simp);have hkf:k<f:=by omega
 have hkn:k<n:=by omega
 have hjf:j<f:=by omega
 have hjn:j<n:=by omega
 clear hkid hjid hks hck0;have HO:=hid (λt' w' (q:Below w0.heap.size w0 w') (h':Pg w0.heap.size b t' w') (hl':t'.length+(qW l (bE l f) k).length<=140737488355328)=>p8 hx hr d k t' w' hkf hkn hke q h' hl');have HO2:=hid (λt' w' (q:Below w0.heap.size w0 w') (h':Pg w0.heap.size b t' w') (hl':t'.length+(qW l (bE l f) j).length<=140737488355328)=>p8 hx hr d j t' w' hjf hjn hje q h' hl');unfold PV at HO HO2;unfold PV;generalize qW l (bE l f) (k:Int)=y at *
 generalize qW l (bE l f) (j:Int)=y2 at *
 generalize (ag l p).n=nn at *
 generalize (ag l p).pl=pl at *
 generalize (ag l p).tx=tx at *
 have HX1:=hid (show SP w.heap.size (w.heap.size+1) [.slice (some ⟨bA,off,none⟩) n c,.func (.func 117) #[.pointer (some ⟨b,0,none⟩)] #[],.int .i64 d] [.int .i64 27,.int .i64 nn,.int .i64 pl,.string tx,.slice (some ⟨bk,ok,none⟩) 2 cK] bk ok (k:Int) ((w.alloc (.cells #[.slice (some ⟨bA,off,none⟩) n c,.func (.func 117) #[.pointer (some ⟨b,0,none⟩)] #[],.int .i64 d] 73)).alloc (.cells #[.int .i64 27,.int .i64 nn,.int .i64 pl,.string tx,.slice (some ⟨bk,ok,none⟩) 2 cK] 37)) by
  have b1:=Bx.new w 73 [.slice (some ⟨bA,off,none⟩) n c,.func (.func 117) #[.pointer (some ⟨b,0,none⟩)] #[],.int .i64 d]
  have b2:=Bx.new (w.alloc (.cells #[.slice (some ⟨bA,off,none⟩) n c,.func (.func 117) #[.pointer (some ⟨b,0,none⟩)] #[],.int .i64 d] 73)) 37 [.int .i64 27,.int .i64 nn,.int .i64 pl,.string tx,.slice (some ⟨bk,ok,none⟩) 2 cK]
  have b3:=b1.alloc (.cells #[.int .i64 27,.int .i64 nn,.int .i64 pl,.string tx,.slice (some ⟨bk,ok,none⟩) 2 cK] 37)
  rw[World.size_alloc]at b2
  refine⟨b3,b2,?_⟩
  have hb2:Below w0.heap.size w0 ((w.alloc (.cells #[.slice (some ⟨bA,off,none⟩) n c,.func (.func 117) #[.pointer (some ⟨b,0,none⟩)] #[],.int .i64 d] 73)).alloc (.cells #[.int .i64 27,.int .i64 nn,.int .i64 pl,.string tx,.slice (some ⟨bk,ok,none⟩) 2 cK] 37)):=(HB.out.alloc hbw _).alloc (by rw[World.size_alloc];omega) _
  exact(hb2.cell (p:=⟨bk,ok,none⟩) hbk).trans hck)
 have HX2:=hid (show SP w.heap.size (w.heap.size+1) [.slice (some ⟨bA,off,none⟩) n c,.func (.func 117) #[.pointer (some ⟨b,0,none⟩)] #[],.int .i64 d] [.int .i64 27,.int .i64 nn,.int .i64 pl,.string tx,.slice (some ⟨bk,ok,none⟩) 2 cK] bk (ok+1) (j:Int) ((w.alloc (.cells #[.slice (some ⟨bA,off,none⟩) n c,.func (.func 117) #[.pointer (some ⟨b,0,none⟩)] #[],.int .i64 d] 73)).alloc (.cells #[.int .i64 27,.int .i64 nn,.int .i64 pl,.string tx,.slice (some ⟨bk,ok,none⟩) 2 cK] 37)) by
  have b1:=Bx.new w 73 [.slice (some ⟨bA,off,none⟩) n c,.func (.func 117) #[.pointer (some ⟨b,0,none⟩)] #[],.int .i64 d]
  have b2:=Bx.new (w.alloc (.cells #[.slice (some ⟨bA,off,none⟩) n c,.func (.func 117) #[.pointer (some ⟨b,0,none⟩)] #[],.int .i64 d] 73)) 37 [.int .i64 27,.int .i64 nn,.int .i64 pl,.string tx,.slice (some ⟨bk,ok,none⟩) 2 cK]
  have b3:=b1.alloc (.cells #[.int .i64 27,.int .i64 nn,.int .i64 pl,.string tx,.slice (some ⟨bk,ok,none⟩) 2 cK] 37)
  rw[World.size_alloc]at b2
  refine⟨b3,b2,?_⟩
  have hb2:Below w0.heap.size w0 ((w.alloc (.cells #[.slice (some ⟨bA,off,none⟩) n c,.func (.func 117) #[.pointer (some ⟨b,0,none⟩)] #[],.int .i64 d] 73)).alloc (.cells #[.int .i64 27,.int .i64 nn,.int .i64 pl,.string tx,.slice (some ⟨bk,ok,none⟩) 2 cK] 37)):=(HB.out.alloc hbw _).alloc (by rw[World.size_alloc];omega) _
  exact(hb2.cell (p:=⟨bk,ok+1,none⟩) hbk).trans hcj)
 have HW1:=hid (((Kp.refl w0.heap.size b w).alloc hbw (.cells #[.slice (some ⟨bA,off,none⟩) n c,.func (.func 117) #[.pointer (some ⟨b,0,none⟩)] #[],.int .i64 d] 73)).alloc (by rw[World.size_alloc];omega) (.cells #[.int .i64 27,.int .i64 nn,.int .i64 pl,.string tx,.slice (some ⟨bk,ok,none⟩) 2 cK] 37));have HP1:=hid ((H.out.alloc (.cells #[.slice (some ⟨bA,off,none⟩) n c,.func (.func 117) #[.pointer (some ⟨b,0,none⟩)] #[],.int .i64 d] 73)).alloc (.cells #[.int .i64 27,.int .i64 nn,.int .i64 pl,.string tx,.slice (some ⟨bk,ok,none⟩) 2 cK] 37));clear hk hr hx hb h hl hpl hpf hke hck hje hcj;go_enter Tryz.func66,Tryz.ntmps66
 go_upto_region 19 with(fail)
 obtain⟨W4,hW4⟩:∃W4:World,((w.alloc (.cells #[.slice (some ⟨bA,off,none⟩) n c,.func (.func 117) #[.pointer (some ⟨b,0,none⟩)] #[],.int .i64 d] 73)).alloc (.cells #[.int .i64 27,.int .i64 nn,.int .i64 pl,.string tx,.slice (some ⟨bk,ok,none⟩) 2 cK] 37))=W4:=⟨_,rfl⟩;rw[hW4]at HX1 HX2 HW1 HP1 |-;clear hW4;have hbk2:=hbk;obtain⟨W5,hW5⟩:∃W5:World,{W4 with drawn:=W4.drawn+1}=W5:=⟨_,rfl⟩;have hkd:Kp w0.heap.size b W4 W5:=by rw[<- hW5];exact⟨Below.drew (Below.refl _ _),(Lib.OthersKept.refl _ _ W4).drew⟩
 have hS:SP w.heap.size (w.heap.size+1) [.slice (some ⟨bA,off,none⟩) n c,.func (.func 117) #[.pointer (some ⟨b,0,none⟩)] #[],.int .i64 d] [.int .i64 27,.int .i64 nn,.int .i64 pl,.string tx,.slice (some ⟨bk,ok,none⟩) 2 cK] bk ok (k:Int) W5:=HX1.out.kp hkd (by omega) (by omega) hbk;have hP5:Pg w0.heap.size b t W5:=by rw[<- hW5];exact HP1.out
 have hw5:=HW1.out.trans hkd;refine wp_region_held (S:=SP w.heap.size (w.heap.size+1) [.slice (some ⟨bA,off,none⟩) n c,.func (.func 117) #[.pointer (some ⟨b,0,none⟩)] #[],.int .i64 d] [.int .i64 27,.int .i64 nn,.int .i64 pl,.string tx,.slice (some ⟨bk,ok,none⟩) 2 cK] bk ok (k:Int)) (by kernel_rfl) ?_;rw[hW5];clear hW5;have hT5:=HX2.out.kp hkd (by omega) (by omega) hbk;refine aG 0 (.agg #[.slice (some ⟨bA,off,none⟩) n c,.func (.func 117) #[.pointer (some ⟨b,0,none⟩)] #[],.int .i64 d]) (by kernel_rfl) rfl rfl (λ_ _ _ h=>h) rfl (ak rfl rfl (λw' q=>aV ((q.1.cell 0).trans rfl) ((q.1.cell 1).trans rfl) ((q.1.cell 2).trans rfl))) hS ?_;simp only[ap];refine aG 1 (.pointer (some ⟨w.heap.size+1,4,none⟩)) (by kernel_rfl) rfl rfl (λ_ _ _ h=>h) rfl (ay rfl rfl (aD _)) hS ?_;simp only[ap];refine aG 2 (.slice (some ⟨bk,ok,none⟩) 2 cK) (by kernel_rfl) rfl rfl (λ_ _ _ h=>h) rfl (ak rfl rfl (λw' q=>aH ((q.2.1.cell 4).trans rfl))) hS ?_;simp only[ap];refine aG 3 (.pointer (some ⟨bk,ok+0,none⟩)) (by kernel_rfl) rfl rfl (λ_ _ _ h=>h) rfl (bq rfl rfl rfl (λw=>aN bk ok 2 cK 0 (by decide) w)) hS ?_;simp only[ap];refine aG 4 (.int .i64 (k:Int)) (by kernel_rfl) rfl rfl (λ_ _ _ h=>h) rfl (ak rfl rfl (λw' q=>aB q.2.2)) hS ?_;simp only[ap]
 refine aQ 5 ({dst:=some 81,op:=Op.call {callee:=Callee.value (Operand.func 126),args := #[Operand.tmp 76,Operand.tmp 80],argTypes := #[73,3]},type:=0,pos := "printer.go:206",after := #[{on:=0,ground:=Ground.data},{on:=4,ground:=Ground.data}],guard:=none}:Oper) (args := #[.agg #[.slice (some ⟨bA,off,none⟩) n c,.func (.func 117) #[.pointer (some ⟨b,0,none⟩)] #[],.int .i64 d],.int .i64 (k:Int)]) xZ rfl rfl (by kernel_rfl) rfl rfl (HO.out _ _ (Kp.w0 HB.out hw5) hP5 (by have:=HL.out;simp at this;omega)) ?_;rintro e w2 ⟨rfl,hp2,hk2⟩;have hS2:=hS.kp hk2 (by omega) (by omega) hbk;refine .inr ⟨_,rfl,hS2,?_⟩;simp only[ap];refine wpAnyH_done (by kernel_rfl) ?_ _;have HP3:=hid hp2;have HW3:=hid (hw5.trans hk2);have HT3:=hid (hT5.kp hk2 (by omega) (by omega) hbk);have e1:=(hS2.1.cell 1).trans rfl;have n3:=(hS2.2.1.cell 3).trans rfl;clear hS hP5 hw5 hkd HX1 HX2 HP1 HW1 hp2 hk2 hS2 hT5;go_wp2_with (go_at_call 117;refine(aC w0.heap.size b _ [[32],tx.data.toList,[32]] _ HP3.out (by simp;have:=HL.out;simp at this;omega) (by simp) 3 rfl _ (by simp[iq];rfl) _ rfl).mono ?_);rintro e w3 ⟨rfl,hp3,hk3⟩;have HS4:=hid (HT3.out.kp hk3 (by omega) (by omega) hbk);have HP4:=hid hp3;have HW4:=hid (HW3.out.trans hk3);clear HW3 HP3 HT3 hp3 hk3 e1 n3
 go_upto_region 21 with(fail)
 obtain⟨W6,hW6⟩:∃W6:World,{w3 with drawn:=w3.drawn+1}=W6:=⟨_,rfl⟩;have hkd:Kp w0.heap.size b w3 W6:=by rw[<- hW6];exact⟨Below.drew (Below.refl _ _),(Lib.OthersKept.refl _ _ w3).drew⟩
 have hS:SP w.heap.size (w.heap.size+1) [.slice (some ⟨bA,off,none⟩) n c,.func (.func 117) #[.pointer (some ⟨b,0,none⟩)] #[],.int .i64 d] [.int .i64 27,.int .i64 nn,.int .i64 pl,.string tx,.slice (some ⟨bk,ok,none⟩) 2 cK] bk (ok+1) (j:Int) W6:=HS4.out.kp hkd (by omega) (by omega) hbk;have hP5:Pg w0.heap.size b (t++y++[[32],tx.data.toList,[32]].flatten) W6:=by rw[<- hW6];exact HP4.out
 have hw5:=HW4.out.trans hkd;refine wp_region_held (S:=SP w.heap.size (w.heap.size+1) [.slice (some ⟨bA,off,none⟩) n c,.func (.func 117) #[.pointer (some ⟨b,0,none⟩)] #[],.int .i64 d] [.int .i64 27,.int .i64 nn,.int .i64 pl,.string tx,.slice (some ⟨bk,ok,none⟩) 2 cK] bk (ok+1) (j:Int)) (by kernel_rfl) ?_;rw[hW6];clear hW6;refine aG 0 (.agg #[.slice (some ⟨bA,off,none⟩) n c,.func (.func 117) #[.pointer (some ⟨b,0,none⟩)] #[],.int .i64 d]) (by kernel_rfl) rfl rfl (λ_ _ _ h=>h) rfl (ak rfl rfl (λw' q=>aV ((q.1.cell 0).trans rfl) ((q.1.cell 1).trans rfl) ((q.1.cell 2).trans rfl))) hS ?_;simp only[ap];refine aG 1 (.pointer (some ⟨w.heap.size+1,4,none⟩)) (by kernel_rfl) rfl rfl (λ_ _ _ h=>h) rfl (ay rfl rfl (aD _)) hS ?_;simp only[ap];refine aG 2 (.slice (some ⟨bk,ok,none⟩) 2 cK) (by kernel_rfl) rfl rfl (λ_ _ _ h=>h) rfl (ak rfl rfl (λw' q=>aH ((q.2.1.cell 4).trans rfl))) hS ?_;simp only[ap];refine aG 3 (.pointer (some ⟨bk,ok+1,none⟩)) (by kernel_rfl) rfl rfl (λ_ _ _ h=>h) rfl (bq rfl rfl rfl (λw=>aN bk ok 2 cK 1 (by decide) w)) hS ?_;simp only[ap];refine aG 4 (.int .i64 (j:Int)) (by kernel_rfl) rfl rfl (λ_ _ _ h=>h) rfl (ak rfl rfl (λw' q=>aB q.2.2)) hS ?_;simp only[ap]
 refine aQ 5 ({dst:=some 93,op:=Op.call {callee:=Callee.value (Operand.func 126),args := #[Operand.tmp 88,Operand.tmp 92],argTypes := #[73,3]},type:=0,pos := "printer.go:208",after := #[{on:=0,ground:=Ground.data},{on:=4,ground:=Ground.data}],guard:=none}:Oper) (args := #[.agg #[.slice (some ⟨bA,off,none⟩) n c,.func (.func 117) #[.pointer (some ⟨b,0,none⟩)] #[],.int .i64 d],.int .i64 (j:Int)]) xZ rfl rfl (by kernel_rfl) rfl rfl (HO2.out _ _ (Kp.w0 HB.out hw5) hP5 (by simp;have:=HL.out;simp at this;omega)) ?_;rintro e w4 ⟨rfl,hp4,hk4⟩;have hS2:=hS.kp hk4 (by omega) (by omega) hbk;refine .inr ⟨_,rfl,hS2,?_⟩;simp only[ap];refine wpAnyH_done (by kernel_rfl) ?_ _;have HP5:=hid hp4;have HW5:=hid (hw5.trans hk4);clear hS hP5 hw5 hkd HS4 HP4 HW4 hp4 hk4 hS2;go_wp2
 go_end0
 exact⟨rfl,by simpa using HP5.out,HW5.out⟩
theorem yc {w0:World}{A:Option Addr}{l:List Tr.Nd}{n:Nat}(c b:Nat)(hx:nR w0 A l n):∀f,lH w0 A l n c b f
 |0=>λp d t w hp=>absurd hp (Nat.not_lt_zero _)
 |f+1=>λp d t w hpf hp he hb h hl=>by
  have hr:=yc c b hx f;have h8:(ag l p).kd=20\/(ag l p).kd=21\/(ag l p).kd=22\/(ag l p).kd=23\/(ag l p).kd=24\/(ag l p).kd=25\/(ag l p).kd=26\/(ag l p).kd=27:=by
   unfold Tr.aI at he;simp only[Bool.and_eq_true,decide_eq_true_eq]at he;omega
  rcases h8 with k |k |k |k |k |k |k |k
  ·exact Gh hx hr d p t w hpf hp k hb h hl
  ·exact Gi hx hr d p t w hpf hp k hb h hl
  ·exact N8 hx hr d p t w hpf hp k hb h hl
  ·exact Gg hx hr d p t w hpf hp k hb h hl
  ·exact N9 hx hr d p t w hpf hp k hb h hl
  ·exact Kl hx hr d p t w hpf hp k hb h hl
  ·exact Gj hx hr d p t w hpf hp k hb h hl
  ·exact Ef hx hr d p t w hpf hp k hb h hl
end
end Go.Proofs.YteecfjhjllajlaaGreatDoor
