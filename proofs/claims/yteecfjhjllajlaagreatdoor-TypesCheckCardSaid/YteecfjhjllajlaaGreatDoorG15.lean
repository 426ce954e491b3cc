/- PROVED: Qk TkI TkK Qm. No more condition. -/
import Derived.Test.YteecfjhjllajlaaGreatDoorG01
import Derived.Laws.Strings2
import Derived.Test.YteecfjhjllajlaaGreatDoorG14
set_option maxHeartbeats 4000000
set_option maxRecDepth 100000
namespace Go.Proofs.YteecfjhjllajlaaGreatDoor
open Go.Lib (hid)
open Go Go.RowKit
def KI (s:St):Prop:=∀x ∈ s.nd,x.ks.length<=s.nd.length
def Kc (n:Nat)(s:St)(b:Nat)(r:Rs):Prop:=∀v s',r=.ok v s'->(v.length+n<=s'.nd.length+b/\s.nd.length<=s'.nd.length)/\(KI s->KI s')
theorem Kc.bind {n n0 b b0:Nat}{s:St}{r:Rs}{f:List Int->St->Rs}(h:Kc n s b r)(q:∀v s',v.length+n<=s'.nd.length+b->s.nd.length<=s'.nd.length->Kc n0 s' b0 (f v s')):Kc n0 s b0 (r.bind f):=λv s' e=>by
 obtain⟨v1,s1,e1,e2⟩:=Rs.bind_ok e;have a:=h v1 s1 e1;have c:=q v1 s1 a.1.1 a.1.2 v s' e2;exact⟨⟨c.1.1,Nat.le_trans a.1.2 c.1.2⟩,λk=>c.2 (a.2 k)⟩
theorem bU {n b:Nat}{s:St}{kd m pl:Int}{tx:List UInt8}{ks:List Int}(hk:ks.length<=s.nd.length)(hn:n<=s.nd.length+b):Kc n s b (bX kd m pl tx ks s):=λv s' e=>by
 unfold bX at e;injection e with e1 e2;subst e1;subst e2
 refine⟨⟨by simp only[List.length_cons,List.length_nil,List.length_append];omega,by simp only[List.length_append];omega⟩,λh x hx =>?_⟩;have hx:x ∈ s.nd++[⟨kd,m,pl,tx,ks⟩]:=hx;show x.ks.length<=(s.nd++[(⟨kd,m,pl,tx,ks⟩:Nd)]).length;rw[List.length_append];rcases List.mem_append.1 hx with hx |hx
 ·have:=h x hx;omega
 ·obtain rfl:=List.mem_singleton.1 hx;show ks.length<=_;omega
theorem fO {n b:Nat}{s:St}{v:List Int}(h:v.length+n<=s.nd.length+b):Kc n s b (.ok v s):=λv' s' e=>by
 injection e with e1 e2;subst e1;subst e2;exact⟨⟨h,Nat.le_refl _⟩,id⟩
theorem ry {n b:Nat}{s:St}{p e:Nat}:Kc n s b (.no p e):=λv s' h=>by cases h
theorem kK {n b:Nat}{s:St}:Kc n s b .out:=λv s' h=>by cases h
theorem uU {s s':St}{b:Nat}(e:s'.nd=s.nd):Kc s.nd.length s b (.ok [] s'):=λv s2 h=>by
 injection h with e1 e2;subst e1;subst e2
 exact⟨⟨by rw[e];simp,by rw[e];exact Nat.le_refl _⟩,λk x hx=>by rw[e]at hx |-;exact k x hx⟩
section
variable {ts:List Tok} {s:St} {x:List UInt8}
theorem kL:Kc s.nd.length s 0 (iZ ts x s):=by
 unfold iZ;split
 ·exact uU rfl
 ·exact ry
theorem kM:Kc s.nd.length s 0 (gP ts s):=by
 unfold gP;split
 ·exact uU rfl
 ·exact ry
theorem Jo:Kc s.nd.length s 0 (qm ts s):=by
 unfold qm;split
 ·exact uU rfl
 ·exact ry
theorem ny:Kc s.nd.length s 0 (ja ts x s):=by
 unfold ja;split
 ·exact ry
 ·exact kL.bind λv s' a b=>(show Kc s.nd.length s' 0 _ from fO (by rw[List.length_nil];show 0+s.nd.length<=s'.nd.length+0;omega))
theorem rz:Kc s.nd.length s 0 (ll ts x s):=by
 unfold ll;exact kL.bind λv s' a b=>(show Kc s.nd.length s' 0 _ from fO (by rw[List.length_nil];show 0+s.nd.length<=s'.nd.length+0;omega))
theorem zH:Kc s.nd.length s 1 (kT ts s):=by
 unfold kT;simp only;split
 ·exact ry
 ·exact fO (s:=ax s) (by rw[List.length_singleton];show 1+s.nd.length<=s.nd.length+1;omega)
theorem uV {kd:Nat}:Kc s.nd.length s 0 (iJ ts kd s):=by
 unfold iJ;simp only;exact kM.bind λv s1 a b=>bU (Nat.zero_le _) (by omega)
theorem rA {kd:Nat}{pl:Int}:Kc s.nd.length s 0 (iF ts kd pl s):=by
 unfold iF;simp only;exact kM.bind λv s1 a b=>zH.bind λv2 s2 a2 b2=>bU (Nat.zero_le _) (by omega)
theorem zI {kd:Nat}:Kc s.nd.length s 0 (jC ts kd s):=by
 unfold jC;simp only;exact(show Kc s.nd.length (ax s) 0 _ from(kM (s:=ax s)).bind λv s1 a b=>bU (Nat.zero_le _) (by have c:(ax s).nd.length=s.nd.length:=rfl;omega))
theorem j3 {v:List Int}{n:Nat}(h:v.length+n<=s.nd.length):Kc n s 0 (dL ts v s):=by
 unfold dL;exact kL.bind λ_ s1 a b=>fO (by omega)
end
def Ht (rec:oW->St->Rs):Prop:=∀s,Kc s.nd.length s 0 (rec .una s)/\(∀r,Kc s.nd.length s 0 (rec (.bin r) s))/\(∀r (l:List Int) n,l.length+n<=s.nd.length->Kc n s 0 (rec (.loop r l) s))/\(∀(a:List Int) n,a.length+n<=s.nd.length->Kc n s 0 (rec (.exprs a) s))/\Kc s.nd.length s 0 (rec .stmt s)/\(∀p (a:List Int) n,a.length+n<=s.nd.length->Kc n s 0 (rec (.stmts p a) s))/\(∀k (a:List Int) n,a.length+n<=s.nd.length->Kc n s 0 (rec (.vars k a) s))/\(∀(a:List Int) n,a.length+n<=s.nd.length->Kc n s 0 (rec (.params a) s))/\∀(a:List Int) n,a.length+n<=s.nd.length->Kc n s 0 (rec (.procs a) s)
theorem d_ {n b:Nat}{s:St}{r:Rs}(h:Kc n (ax s) b r):Kc n s b r:=h
theorem eD (s:St):(ax s).nd.length=s.nd.length:=rfl
section
variable {ts:List Tok} {rec:oW->St->Rs} (hr:Ht rec) {s:St}
include hr
theorem fP:Kc s.nd.length s 0 (bT rec s):=(hr s).2.1 1
theorem Du:Kc s.nd.length s 0 (nQ ts rec s):=by
 unfold nQ;exact ny.bind λ_ s1 a b=>(fP hr).bind λv s2 a2 b2=>rz.bind λ_ s3 a3 b3=>fO (by omega)
theorem FN:Kc s.nd.length s 0 (jS ts rec s):=by
 unfold jS;simp only;refine kM.bind λ_ s1 a b =>?_
 split
 ·exact(Du hr).bind λv s2 a2 b2=>bU (by omega) (by omega)
 ·exact bU (Nat.zero_le _) (by omega)
theorem FO:Kc s.nd.length s 0 (jB ts rec s):=by
 unfold jB;simp only;exact ny.bind λ_ s1 a b=>(hr s1).1.bind λv s2 a2 b2=>(show Kc s.nd.length s2 0 _ from bU (s := {s2 with op:=s2.op-1}) (show v.length<=s2.nd.length by omega) (show s.nd.length<=s2.nd.length+0 by omega))
theorem Jp:Kc s.nd.length s 0 (bq ts rec s):=by
 unfold bq;simp only;split
 ·exact FN hr
 split
 ·exact d_ (bU (Nat.zero_le _) (Nat.le_refl _))
 split
 ·exact FO hr
 split
 ·exact d_ (bU (Nat.zero_le _) (Nat.le_refl _))
 split
 ·exact zI
 split
 ·exact zI
 split
 ·exact ny.bind λ_ s1 a b=>(fP hr).bind λv s2 a2 b2=>rz.bind λ_ s3 a3 b3=>fO (by omega)
 ·exact ry
theorem Jq {r:Nat}:Kc s.nd.length s 0 (lq rec r s):=by
 unfold lq;split
 ·exact(hr s).1
 ·exact((hr s).2.1 _).bind λv s1 a b=>(hr s1).2.2.1 _ _ _ (by omega)
theorem FP {r n:Nat}{l:List Int}(h:l.length+n<=s.nd.length):Kc n s 0 (nR ts rec r l s):=by
 unfold nR;simp only;split
 ·refine d_ (((hr (ax s)).2.1 _).bind λv s1 a b=>(bU (n:=n) (b:=0) (by rw[List.length_append];have:=eD s;omega) (by have:=eD s;omega)).bind λv2 s2 a2 b2=>(hr s2).2.2.1 _ _ _ (by omega))
 ·exact fO (by omega)
theorem Dv {a:List Int}{n:Nat}(h:a.length+n<=s.nd.length):Kc n s 0 (jc ts rec a s):=by
 unfold jc;split
 ·exact d_ ((fP hr).bind λv s1 c d=>(hr s1).2.2.2.1 _ _ (by rw[List.length_append];have:=eD s;omega))
 ·exact rz.bind λ_ s1 c d=>fO (by omega)
theorem FQ:Kc s.nd.length s 0 (lu ts rec s):=by
 unfold lu;refine ny.bind λ_ s1 a b =>?_
 split
 ·exact(hr s1).2.2.2.1 _ _ (by rw[List.length_nil];omega)
 ·exact(fP hr).bind λv s2 c d=>(hr s2).2.2.2.1 _ _ (by omega)
theorem zJ {tx:List UInt8}{pl:Int}:Kc s.nd.length s 0 (jd ts rec tx pl s):=by
 unfold jd;exact kL.bind λ_ s1 a b=>uV.bind λv s2 c d=>(FQ hr).bind λv3 s3 e f=>bU (by rw[List.length_append];omega) (by omega)
theorem lI:Kc s.nd.length s 0 (fU ts rec s):=by
 unfold fU;simp only;exact ny.bind λ_ s1 a b=>(hr s1).2.2.2.2.2.1 _ _ _ (by rw[List.length_nil];omega)
theorem Dw {pl:Int}{a:List Int}{n:Nat}(h:a.length+n<=s.nd.length):Kc n s 0 (kC ts rec pl a s):=by
 unfold kC;split
 ·exact rz.bind λ_ s1 c d=>bU (by omega) (by omega)
 ·exact(hr s).2.2.2.2.1.bind λv s1 c d=>(hr s1).2.2.2.2.2.1 _ _ _ (by rw[List.length_append];omega)
theorem FR {t:Tok}:Kc s.nd.length s 0 (dB ts rec t s):=by
 unfold dB;simp only;split
 ·exact d_ (uV.bind λv s1 a b=>bU (by have:=eD s;omega) (by have:=eD s;omega))
 split
 ·exact zJ hr
 split
 ·exact d_ ((fP hr).bind λv s1 a b=>bU (by have:=eD s;omega) (by have:=eD s;omega))
 ·exact(fP hr).bind λv s1 a b=>bU (by omega) (by omega)
theorem Dx:Kc s.nd.length s 0 (gV ts rec s):=by
 unfold gV;simp only;refine kM.bind λ_ s1 a b =>?_
 split
 ·exact(Du hr).bind λi s2 c d=>kL.bind λ_ s3 e f=>(fP hr).bind λv s4 g h=>(bU (n:=s4.nd.length) (b:=0) (by rw[List.length_append];omega) (by omega)).bind λv5 s5 k l=>j3 (by omega)
 ·exact kL.bind λ_ s3 e f=>(FR hr).bind λv s4 g h=>j3 (by omega)
theorem FT:Kc s.nd.length s 0 (o9 ts rec s):=by
 unfold o9;simp only;exact d_ (uV.bind λi s2 c d=>(fP hr).bind λv s4 g h=>(bU (n:=s4.nd.length) (b:=0) (by rw[List.length_append];have:=eD s;omega) (by omega)).bind λv5 s5 k l=>j3 (by have:=eD s;omega))
theorem KR:Kc s.nd.length s 0 (Au ts rec s):=by
 unfold Au;simp only;refine d_ ((fP hr).bind λv s1 a b=>(lI hr).bind λv2 s2 c d =>?_);split
 ·exact d_ ((lI hr).bind λv3 s3 e f=>bU (by rw[List.length_append,List.length_append];have:=eD s;have:=eD s2;omega) (by have:=eD s;have:=eD s2;omega))
 ·exact(bU (n:=s2.nd.length) (b:=0) (Nat.zero_le _) (by omega)).bind λv3 s3 e f=>bU (by rw[List.length_append,List.length_append];have:=eD s;omega) (by have:=eD s;omega)
theorem Dy:Kc s.nd.length s 0 (kD ts rec s):=by
 unfold kD;simp only;exact d_ ((fP hr).bind λv s1 a b=>(lI hr).bind λv2 s2 c d=>bU (by rw[List.length_append];have:=eD s;omega) (by have:=eD s;omega))
theorem AR:Kc s.nd.length s 0 (fe ts rec s):=by
 unfold fe;simp only;refine d_ ?_;split
 ·exact bU (Nat.zero_le _) (Nat.le_refl _)
 ·exact(fP hr).bind λv s1 a b=>bU (by have:=eD s;omega) (by have:=eD s;omega)
theorem Dz:Kc s.nd.length s 0 (lw ts rec s):=by
 unfold lw;simp only;exact d_ ((fP hr).bind λv s1 a b=>bU (by have:=eD s;omega) (by have:=eD s;omega))
theorem Jr:Kc s.nd.length s 0 (o_ ts rec s):=by
 unfold o_;simp only;exact d_ ((lI hr).bind λv s1 a b=>kL.bind λ_ s2 c d=>kM.bind λ_ s3 e f=>(lI hr).bind λv4 s4 g h=>bU (by rw[List.length_append];have:=eD s;omega) (by have:=eD s;omega))
theorem FU:Kc s.nd.length s 0 (aK ts rec s):=by
 unfold aK;simp only;split
 ·exact Dx hr
 split
 ·exact FT hr
 split
 ·exact KR hr
 split
 ·exact Dy hr
 split
 ·exact(zJ hr).bind λv s1 a b=>j3 (by omega)
 split
 ·exact(AR hr).bind λv s1 a b=>j3 (by omega)
 split
 ·exact(Dz hr).bind λv s1 a b=>j3 (by omega)
 split
 ·exact Jr hr
 ·exact ry
theorem FV {k:Nat}{a:List Int}{n:Nat}(h:a.length+n<=s.nd.length):Kc n s 0 (nS ts rec k a s):=by
 unfold nS;split
 ·exact d_ (rA.bind λv s1 c d=>kL.bind λ_ s2 e f=>(hr s2).2.2.2.2.2.2.1 _ _ _ (by rw[List.length_append];have:=eD s;omega))
 ·exact fO (by omega)
theorem AU {a:List Int}{n:Nat}(h:a.length+n<=s.nd.length):Kc n s 0 (gG ts rec a s):=by
 unfold gG kE;split
 ·exact d_ (rA.bind λv s1 c d=>(hr s1).2.2.2.2.2.2.2.1 _ _ (by rw[List.length_append];have:=eD s;omega))
 ·exact rz.bind λ_ s1 c d=>fO (by omega)
theorem DC:Kc s.nd.length s 0 (je ts rec s):=by
 unfold je kE;refine ny.bind λ_ s1 a b =>?_
 split
 ·exact(hr s1).2.2.2.2.2.2.2.1 _ _ (by rw[List.length_nil];omega)
 ·exact rA.bind λv s2 c d=>(hr s2).2.2.2.2.2.2.2.1 _ _ (by omega)
theorem FW:Kc s.nd.length s 0 (kU ts rec s):=by
 unfold kU;simp only;refine kL.bind λ_ s1 a b=>kM.bind λ_ s2 c d=>(DC hr).bind λv3 s3 e f=>Kc.bind (n:=s3.nd.length) (b:=1) ?_ λv4 s4 g h=>ny.bind λ_ s5 i j=>((hr s5).2.2.2.2.2.2.1 _ _ s5.nd.length (by rw[List.length_nil];omega)).bind λv6 s6 k l=>((hr s6).2.2.2.2.2.1 _ _ s6.nd.length (by rw[List.length_nil];omega)).bind λv7 s7 m n=>bU (by rw[List.length_append,List.length_append];omega) (by omega)
 split
 ·exact fO (by rw[List.length_singleton];omega)
 ·exact zH
theorem DD {a:List Int}{n:Nat}(h:a.length+n<=s.nd.length):Kc n s 0 (kF ts rec a s):=by
 unfold kF;split
 ·exact(FW hr).bind λv s1 c d=>(hr s1).2.2.2.2.2.2.2.2 _ _ (by rw[List.length_append];omega)
 ·exact fO (by omega)
theorem yG:Kc s.nd.length s 0 (dI ts rec s):=by
 unfold dI;exact((hr s).2.2.2.2.2.2.1 _ _ s.nd.length (by rw[List.length_nil];omega)).bind λv s1 a b=>((hr s1).2.2.2.2.2.2.2.2 _ s.nd.length (by omega)).bind λv2 s2 c d=>Jo.bind λ_ s3 e f=>bU (by omega) (by omega)
end
theorem DF (ts:List Tok):∀f,Ht (run ts f)
 |0=>λ_=>⟨kK,λ_=>kK,λ_ _ _ _=>kK,λ_ _ _=>kK,kK,λ_ _ _ _=>kK,λ_ _ _ _=>kK,λ_ _ _=>kK,λ_ _ _=>kK⟩
 |f+1=>λ_=>
  have hr:=DF ts f
  ⟨Jp hr,λ_=>Jq hr,λ_ _ _ h=>FP hr h,λ_ _ h=>Dv hr h,FU hr,λ_ _ _ h=>Dw hr h,λ_ _ _ h=>FV hr h,λ_ _ h=>AU hr h,λ_ _ h=>DD hr h⟩
theorem AV {ts:List Tok}{v:List Int}{s:St}(h:lF ts=.ok v s):∀x ∈ s.nd,x.ks.length<=s.nd.length:=(yG (DF ts _) v s h).2 (λx hx=>by cases hx)
namespace Tk
def Hu (c:UInt8):Bool:=c.toNat != 10
theorem Hw (s:ByteArray)(b k:Nat)(w:World)(hk:k<s.size)(hc:w.cell? ⟨b,0,none⟩=some (.string s)):Calls Tryz.prog 264 #[.int .i64 (k:Int),.pointer (some ⟨b,0,none⟩)] w λe w'=>e=.returned (.bool (oV s[k]))/\w=w':=by
 go_enter Tryz.func264,Tryz.ntmps264
 go_wp2_with (go_at_call 160;refine(gm _ _).mono ?_;rintro e w' ⟨rfl,rfl⟩)
 go_ret
 simp
theorem Hy (s:ByteArray)(b k:Nat)(w:World)(hk:k<s.size)(hc:w.cell? ⟨b,0,none⟩=some (.string s)):Calls Tryz.prog 265 #[.int .i64 (k:Int),.pointer (some ⟨b,0,none⟩)] w λe w'=>e=.returned (.bool (Hu s[k]))/\w=w':=by
 have hb:Hu s[k]=((s[k].toNat:Int) != 10):=by unfold Hu;rw[Bool.eq_iff_iff];simp;omega
 rw[hb];clear hb;generalize hq:((s[k].toNat:Int) != 10)=q at *
 go_enter Tryz.func265,Tryz.ntmps265
 go_wp2
 go_ret
 simp
theorem Hz (s:ByteArray)(b k:Nat)(w:World)(hk:k<s.size)(hc:w.cell? ⟨b,0,none⟩=some (.string s)):Calls Tryz.prog 266 #[.int .i64 (k:Int),.pointer (some ⟨b,0,none⟩)] w λe w'=>e=.returned (.bool (gM s[k]))/\w=w':=by
 go_enter Tryz.func266,Tryz.ntmps266
 go_wp2_with (go_at_call 252;refine(fD _ _).mono ?_;rintro e w' ⟨rfl,rfl⟩)
 go_ret
 simp
theorem DI (s:ByteArray)(a b:Nat):(s.extract a b).data.toList=(s.data.toList.drop a).take (b-a):=by
 rw[ByteArray.data_extract,Array.toList_extract,List.extract_eq_take_drop]
theorem tX (s:ByteArray)(i j:Nat)(jj:Int)(hj:jj=(j:Int))(h1:i<=j)(h2:j<=s.size)(w:World) :
  (Instr.slice 9 (.string s) (some (.int .i64 (i:Int))) (some (.int .i64 jj)) none).run Tryz.prog w=.ok (.string (s.extract i j)) w:=by
 subst hj;have:=run_slice_string (P:=Tryz.prog) w 9 s .i64 .i64 (i:Int) (j:Int) Tryz.underlying9 (by omega) (by omega) (by omega);simpa using this
theorem H5 (s:ByteArray)(b p k:Nat)(w:World)(hp:p<=k)(hk:k<s.size)(hs:s.size<=281474976710656)(hc:w.cell? ⟨b,0,none⟩=some (.string s))(hd:w.cell? ⟨b+1,0,none⟩=some (.int .i64 (p:Int))) :
  Calls Tryz.prog 267 #[.int .i64 (k:Int),.pointer (some ⟨b,0,none⟩),.pointer (some ⟨b+1,0,none⟩)] w λe w'=>e=.returned (.bool (iI ((s.data.toList.drop p).take (k+1-p))))/\w=w':=by
 have hsl:=tX s p (k+1) ((k:Int)+1) (by omega) (by omega) (by omega);go_enter Tryz.func267,Tryz.ntmps267
 go_wp2_with (go_at_call 237;refine(oZ _ _).mono ?_;rintro e w' ⟨rfl,rfl⟩)
 go_ret
 exact⟨rfl,rfl⟩
def pF (c:UInt8)(b:Nat):Value:=
 if oV c then .func (.func 264) #[] #[.pointer (some ⟨b,0,none⟩)]
 else if vQ c then .func (.func 265) #[] #[.pointer (some ⟨b,0,none⟩)]
 else if gM c then .func (.func 266) #[] #[.pointer (some ⟨b,0,none⟩)]
 else .func (.func 267) #[] #[.pointer (some ⟨b,0,none⟩),.pointer (some ⟨b+1,0,none⟩)]
def FX (s:ByteArray)(p:Nat)(c:UInt8)(w:World)(e:Ending)(w':World):Prop:=
 e=.returned (pF c w.heap.size)/\w'=(w.alloc (.cells #[.string s] 9)).alloc (.cells #[.int .i64 (p:Int)] 3)
theorem iP (s:ByteArray)(p:Nat)(w:World)(hk:p<s.size):Calls Tryz.prog 235 #[.string s,.int .i64 (p:Int)] w (FX s p s[p] w):=by
 cases h1:oV s[p]
 ·cases h2:vQ s[p]
  ·cases h3:gM s[p]
   ·go_enter Tryz.func235,Tryz.ntmps235
    go_wp2_with (first|(go_at_call 160;refine(gm _ _).mono ?_;rintro e w' ⟨rfl,rfl⟩) |(go_at_call 161;refine(eP _ _).mono ?_;rintro e w' ⟨rfl,rfl⟩) |(go_at_call 252;refine(fD _ _).mono ?_;rintro e w' ⟨rfl,rfl⟩))
    go_ret
    exact⟨by simp only[pF,h1,h2,h3,Bool.false_eq_true,if_false];rfl,rfl⟩
   ·go_enter Tryz.func235,Tryz.ntmps235
    go_wp2_with (first|(go_at_call 160;refine(gm _ _).mono ?_;rintro e w' ⟨rfl,rfl⟩) |(go_at_call 161;refine(eP _ _).mono ?_;rintro e w' ⟨rfl,rfl⟩) |(go_at_call 252;refine(fD _ _).mono ?_;rintro e w' ⟨rfl,rfl⟩))
    go_ret
    exact⟨by simp only[pF,h1,h2,h3,Bool.false_eq_true,if_false,if_true];rfl,rfl⟩
  ·go_enter Tryz.func235,Tryz.ntmps235
   go_wp2_with (first|(go_at_call 160;refine(gm _ _).mono ?_;rintro e w' ⟨rfl,rfl⟩) |(go_at_call 161;refine(eP _ _).mono ?_;rintro e w' ⟨rfl,rfl⟩) |(go_at_call 252;refine(fD _ _).mono ?_;rintro e w' ⟨rfl,rfl⟩))
   go_ret
   exact⟨by simp only[pF,h1,h2,Bool.false_eq_true,if_false,if_true];rfl,rfl⟩
 ·go_enter Tryz.func235,Tryz.ntmps235
  go_wp2_with (first|(go_at_call 160;refine(gm _ _).mono ?_;rintro e w' ⟨rfl,rfl⟩) |(go_at_call 161;refine(eP _ _).mono ?_;rintro e w' ⟨rfl,rfl⟩) |(go_at_call 252;refine(fD _ _).mono ?_;rintro e w' ⟨rfl,rfl⟩))
  go_ret
  exact⟨by simp only[pF,h1,if_true];rfl,rfl⟩
def kV (q:UInt8->Bool)(l:List UInt8)(a k:Nat):Prop:=∀j (h:j<l.length),a<=j->j<k->q l[j]=true
theorem kV.nil (q:UInt8->Bool)(l:List UInt8)(a:Nat):kV q l a a:=λj _ h1 h2=>by omega
theorem kV.snoc {q:UInt8->Bool}{l:List UInt8}{a k:Nat}(h:kV q l a k)(hk:∀h:k<l.length,q l[k]=true):kV q l a (k+1):=λj hj h1 h2=>by
 by_cases e:j=k
 ·subst e;exact hk hj
 ·exact h j hj h1 (by omega)
theorem pG {q:UInt8->Bool}{l:List UInt8}{a k:Nat}(ha:kV q l a k)(h1:a<=k)(h2:k<=l.length)(hend:∀h:k<l.length,q l[k]=false):((l.drop a).takeWhile q).length=k-a:=by
 have e:l.drop a=(l.drop a).take (k-a)++l.drop k:=by
  conv=>lhs;rw[<- List.take_append_drop (k-a) (l.drop a)]
  rw[List.drop_drop,show a+(k-a)=k by omega]
 rw[e,List.takeWhile_append_of_pos]
 ·have h3:(l.drop k).takeWhile q=[]:=by
   by_cases hk:k<l.length
   ·rw[List.drop_eq_getElem_cons hk,List.takeWhile_cons,hend hk];rfl
   ·rw[List.drop_of_length_le (by omega)];rfl
  rw[h3];simp;omega
 ·intro x hx;obtain⟨i,hi,rfl⟩:=List.getElem_of_mem hx;simp at hi |-;exact ha (a+i) (by omega) (by omega) (by omega)
theorem lJ (s:ByteArray)(p:Nat)(h:p<s.size):s.data.toList.getD p 0=s[p]:=by
 rw[List.getD_eq_getElem?_getD,List.getElem?_eq_getElem (by simpa using h)];rfl
def lL (l:List UInt8)(p:Nat):Nat:=
 p+1+(if oV (l.getD p 0) then ((l.drop (p+1)).takeWhile oV).length else if vQ (l.getD p 0) then ((l.drop (p+1)).takeWhile Hu).length else if gM (l.getD p 0) then ((l.drop (p+1)).takeWhile gM).length
  else if iI ((l.drop p).take 2)=true/\p+1<l.length then 1 else 0)
def rC (l:List UInt8)(p:Nat)(w:World)(e:Ending)(w':World):Prop:=e=.returned (.int .i64 (lL l p:Int))/\Below w.heap.size w w'
theorem DJ (s:ByteArray)(p:Nat)(w:World)(hp:p<s.size)(hs:s.size<=281474976710656)(h1:oV s[p]=true):Calls Tryz.prog 159 #[.string s,.int .i64 (p:Int)] w (rC s.data.toList p w):=by
 have hv:pF s[p] w.heap.size=.func (.func 264) #[] #[.pointer (some ⟨w.heap.size,0,none⟩)]:=by simp only[pF,h1,if_true]
 have HG:=hid (lJ s p hp);have HK:=hid (show lL s.data.toList p=p+1+((s.data.toList.drop (p+1)).takeWhile oV).length by unfold lL;rw[HG.out];simp only[h1,if_true]);have HV:=hid hv;clear hv h1;go_enter Tryz.func159,Tryz.ntmps159
 go_wp2_with (go_at_call 235;refine(iP s p _ hp).mono ?_);rintro e w1 ⟨rfl,hw⟩;rw[HV.out];have hc:w1.cell? ⟨w.heap.size,0,none⟩=some (.string s):=by rw[hw];simp
 have hb:Below w.heap.size w w1:=by rw[hw];exact(ag w _).alloc (by simp) _
 have HC:=hid hc;clear hw hc;go_wp2
 go_loop [6] (λi=>∃k:Nat,p+1<=k/\k<=s.size/\i=.int .i64 (k:Int)/\kV oV s.data.toList (p+1) k) (λi=>s.size-(intOf i).toNat)
 case atStart=>exact⟨p+1,Nat.le_refl _,by omega,by go_num,kV.nil _ _ _⟩
 case round=>
  obtain⟨k,hk1,hk2,rfl,ha⟩:=hrel;by_cases hlt:k<s.size
  ·have hlz:(k:Int)<(s.size:Int):=by omega
   cases hq:oV s[k]
   ·have HQ:=hid hq;go_wp2_with (go_at_call 264;refine(Hw s _ k _ hlt HC.out).mono ?_;rintro e w' ⟨rfl,rfl⟩)
    go_ret
    exact⟨aB (by rw[HK.out,pG ha hk1 (by simpa using hk2) (λ_=>by simpa [ByteArray.getElem_eq_getElem_data]using HQ.out)];omega),hb⟩
   ·have HQ:=hid hq;go_wp2_with (go_at_call 264;refine(Hw s _ k _ hlt HC.out).mono ?_;rintro e w' ⟨rfl,rfl⟩)
    go_round
    case rel=>exact⟨k+1,by omega,by omega,by go_num,ha.snoc (λ_=>by simpa [ByteArray.getElem_eq_getElem_data]using HQ.out)⟩
    case measure=>simp[intOf];omega
  ·have hlz:¬(k:Int)<(s.size:Int):=by omega
   go_wp2
   go_ret
   exact⟨aB (by rw[HK.out,pG ha hk1 (by simpa using hk2) (λh=>absurd h (by simpa using hlt))];omega),hb⟩
theorem DK (s:ByteArray)(p:Nat)(w:World)(hp:p<s.size)(hs:s.size<=281474976710656)(h1:oV s[p]=false)(h2:vQ s[p]=true):Calls Tryz.prog 159 #[.string s,.int .i64 (p:Int)] w (rC s.data.toList p w):=by
 have hv:pF s[p] w.heap.size=.func (.func 265) #[] #[.pointer (some ⟨w.heap.size,0,none⟩)]:=by simp only[pF,h1,h2,Bool.false_eq_true,if_false,if_true]
 have HG:=hid (lJ s p hp);have HK:=hid (show lL s.data.toList p=p+1+((s.data.toList.drop (p+1)).takeWhile Hu).length by unfold lL;rw[HG.out];simp only[h1,h2,Bool.false_eq_true,if_false,if_true]);have HV:=hid hv;clear hv h1 h2;go_enter Tryz.func159,Tryz.ntmps159
 go_wp2_with (go_at_call 235;refine(iP s p _ hp).mono ?_);rintro e w1 ⟨rfl,hw⟩;rw[HV.out];have hc:w1.cell? ⟨w.heap.size,0,none⟩=some (.string s):=by rw[hw];simp
 have hb:Below w.heap.size w w1:=by rw[hw];exact(ag w _).alloc (by simp) _
 have HC:=hid hc;clear hw hc;go_wp2
 go_loop [6] (λi=>∃k:Nat,p+1<=k/\k<=s.size/\i=.int .i64 (k:Int)/\kV Hu s.data.toList (p+1) k) (λi=>s.size-(intOf i).toNat)
 case atStart=>exact⟨p+1,Nat.le_refl _,by omega,by go_num,kV.nil _ _ _⟩
 case round=>
  obtain⟨k,hk1,hk2,rfl,ha⟩:=hrel;by_cases hlt:k<s.size
  ·have hlz:(k:Int)<(s.size:Int):=by omega
   cases hq:Hu s[k]
   ·have HQ:=hid hq;go_wp2_with (go_at_call 265;refine(Hy s _ k _ hlt HC.out).mono ?_;rintro e w' ⟨rfl,rfl⟩)
    go_ret
    exact⟨aB (by rw[HK.out,pG ha hk1 (by simpa using hk2) (λ_=>by simpa [ByteArray.getElem_eq_getElem_data]using HQ.out)];omega),hb⟩
   ·have HQ:=hid hq;go_wp2_with (go_at_call 265;refine(Hy s _ k _ hlt HC.out).mono ?_;rintro e w' ⟨rfl,rfl⟩)
    go_round
    case rel=>exact⟨k+1,by omega,by omega,by go_num,ha.snoc (λ_=>by simpa [ByteArray.getElem_eq_getElem_data]using HQ.out)⟩
    case measure=>simp[intOf];omega
  ·have hlz:¬(k:Int)<(s.size:Int):=by omega
   go_wp2
   go_ret
   exact⟨aB (by rw[HK.out,pG ha hk1 (by simpa using hk2) (λh=>absurd h (by simpa using hlt))];omega),hb⟩
theorem DL (s:ByteArray)(p:Nat)(w:World)(hp:p<s.size)(hs:s.size<=281474976710656)(h1:oV s[p]=false)(h2:vQ s[p]=false)(h3:gM s[p]=true):Calls Tryz.prog 159 #[.string s,.int .i64 (p:Int)] w (rC s.data.toList p w):=by
 have hv:pF s[p] w.heap.size=.func (.func 266) #[] #[.pointer (some ⟨w.heap.size,0,none⟩)]:=by simp only[pF,h1,h2,h3,Bool.false_eq_true,if_false,if_true]
 have HG:=hid (lJ s p hp);have HK:=hid (show lL s.data.toList p=p+1+((s.data.toList.drop (p+1)).takeWhile gM).length by unfold lL;rw[HG.out];simp only[h1,h2,h3,Bool.false_eq_true,if_false,if_true]);have HV:=hid hv;clear hv h1 h2 h3;go_enter Tryz.func159,Tryz.ntmps159
 go_wp2_with (go_at_call 235;refine(iP s p _ hp).mono ?_);rintro e w1 ⟨rfl,hw⟩;rw[HV.out];have hc:w1.cell? ⟨w.heap.size,0,none⟩=some (.string s):=by rw[hw];simp
 have hb:Below w.heap.size w w1:=by rw[hw];exact(ag w _).alloc (by simp) _
 have HC:=hid hc;clear hw hc;go_wp2
 go_loop [6] (λi=>∃k:Nat,p+1<=k/\k<=s.size/\i=.int .i64 (k:Int)/\kV gM s.data.toList (p+1) k) (λi=>s.size-(intOf i).toNat)
 case atStart=>exact⟨p+1,Nat.le_refl _,by omega,by go_num,kV.nil _ _ _⟩
 case round=>
  obtain⟨k,hk1,hk2,rfl,ha⟩:=hrel;by_cases hlt:k<s.size
  ·have hlz:(k:Int)<(s.size:Int):=by omega
   cases hq:gM s[k]
   ·have HQ:=hid hq;go_wp2_with (go_at_call 266;refine(Hz s _ k _ hlt HC.out).mono ?_;rintro e w' ⟨rfl,rfl⟩)
    go_ret
    exact⟨aB (by rw[HK.out,pG ha hk1 (by simpa using hk2) (λ_=>by simpa [ByteArray.getElem_eq_getElem_data]using HQ.out)];omega),hb⟩
   ·have HQ:=hid hq;go_wp2_with (go_at_call 266;refine(Hz s _ k _ hlt HC.out).mono ?_;rintro e w' ⟨rfl,rfl⟩)
    go_round
    case rel=>exact⟨k+1,by omega,by omega,by go_num,ha.snoc (λ_=>by simpa [ByteArray.getElem_eq_getElem_data]using HQ.out)⟩
    case measure=>simp[intOf];omega
  ·have hlz:¬(k:Int)<(s.size:Int):=by omega
   go_wp2
   go_ret
   exact⟨aB (by rw[HK.out,pG ha hk1 (by simpa using hk2) (λh=>absurd h (by simpa using hlt))];omega),hb⟩
theorem AX {l:List UInt8}(h:iI l=true):l.length=1\/l.length=2:=by
 simp only[iI,Bool.or_eq_true,beq_iff_eq]at h;rcases h with((((((((((((((((((((((h |h) |h) |h) |h) |h) |h) |h) |h) |h) |h) |h) |h) |h) |h) |h) |h) |h) |h) |h) |h) |h) |h) |h<;>subst h<;>simp
def zK (l:List UInt8)(p k:Nat):Prop:=k=p+1\/(k=p+2/\iI ((l.drop p).take 2)=true/\p+1<l.length)
theorem KS {l:List UInt8}{p:Nat}(h1:oV (l.getD p 0)=false)(h2:vQ (l.getD p 0)=false)(h3:gM (l.getD p 0)=false):lL l p=p+1+(if iI ((l.drop p).take 2)=true/\p+1<l.length then 1 else 0):=by
 unfold lL;simp only[h1,h2,h3,Bool.false_eq_true,if_false]
theorem DN {l:List UInt8}{p k:Nat}(hr:zK l p k)(hE:lL l p=p+1+(if iI ((l.drop p).take 2)=true/\p+1<l.length then 1 else 0))(he:k<l.length->iI ((l.drop p).take (k+1-p))=false):k=lL l p:=by
 rw[hE];rcases hr with rfl |⟨rfl,h,h'⟩
 ·by_cases hl:p+1<l.length
  ·have:=he hl;rw[show p+1+1-p=2 by omega]at this;rw[if_neg (by rw[this];simp)]
  ·rw[if_neg (λh=>hl h.2)]
 ·rw[if_pos ⟨h,h'⟩]
theorem FY {l:List UInt8}{p k:Nat}(hr:zK l p k)(hk:k<l.length)(he:iI ((l.drop p).take (k+1-p))=true):zK l p (k+1):=by
 rcases hr with rfl |⟨rfl,h,h'⟩
 ·rw[show p+1+1-p=2 by omega]at he;exact .inr ⟨rfl,he,hk⟩
 ·exfalso;have:=AX he;simp at this;omega
theorem DR (s:ByteArray)(p:Nat)(w:World)(hp:p<s.size)(hs:s.size<=281474976710656)(h1:oV s[p]=false)(h2:vQ s[p]=false)(h3:gM s[p]=false):Calls Tryz.prog 159 #[.string s,.int .i64 (p:Int)] w (rC s.data.toList p w):=by
 have hv:pF s[p] w.heap.size=.func (.func 267) #[] #[.pointer (some ⟨w.heap.size,0,none⟩),.pointer (some ⟨w.heap.size+1,0,none⟩)]:=by simp only[pF,h1,h2,h3,Bool.false_eq_true,if_false]
 have hg:=lJ s p hp;have hl:s.data.toList.length=s.size:=by simp
 have HE:=hid (KS (l:=s.data.toList) (p:=p) (by rw[hg];exact h1) (by rw[hg];exact h2) (by rw[hg];exact h3));have HL:=hid hl;have HV:=hid hv;clear hv h1 h2 h3 hg hl;go_enter Tryz.func159,Tryz.ntmps159
 go_wp2_with (go_at_call 235;refine(iP s p _ hp).mono ?_);rintro e w1 ⟨rfl,hw⟩;rw[HV.out];have hc:w1.cell? ⟨w.heap.size,0,none⟩=some (.string s):=by rw[hw];simp
 have hd:w1.cell? ⟨w.heap.size+1,0,none⟩=some (.int .i64 (p:Int)):=by rw[hw];simp
 have hb:Below w.heap.size w w1:=by rw[hw];exact(ag w _).alloc (by simp) _
 have HC:=hid hc;have HD:=hid hd;clear hw hc hd;go_wp2
 go_loop [6] (λi=>∃k:Nat,p+1<=k/\k<=s.size/\i=.int .i64 (k:Int)/\zK s.data.toList p k) (λi=>s.size-(intOf i).toNat)
 case atStart=>exact⟨p+1,Nat.le_refl _,by omega,by go_num,.inl rfl⟩
 case round=>
  obtain⟨k,hk1,hk2,rfl,ha⟩:=hrel;by_cases hlt:k<s.size
  ·have hlz:(k:Int)<(s.size:Int):=by omega
   cases hq:iI ((s.data.toList.drop p).take (k+1-p))
   ·have HQ:=hid hq;go_wp2_with (go_at_call 267;refine(H5 s _ p k _ (by omega) hlt hs HC.out HD.out).mono ?_;rintro e w' ⟨rfl,rfl⟩)
    go_ret
    exact⟨aB (by rw[<- DN ha HE.out (λ_=>HQ.out)]),hb⟩
   ·have HQ:=hid hq;go_wp2_with (go_at_call 267;refine(H5 s _ p k _ (by omega) hlt hs HC.out HD.out).mono ?_;rintro e w' ⟨rfl,rfl⟩)
    go_round
    case rel=>exact⟨k+1,by omega,by omega,by go_num,FY ha (by rw[HL.out];exact hlt) HQ.out⟩
    case measure=>simp[intOf];omega
  ·have hlz:¬(k:Int)<(s.size:Int):=by omega
   go_wp2
   go_ret
   exact⟨aB (by rw[<- DN ha HE.out (λh=>absurd h (by rw[HL.out];exact hlt))]),hb⟩
theorem AY (s:ByteArray)(p:Nat)(w:World)(hp:p<s.size)(hs:s.size<=281474976710656):Calls Tryz.prog 159 #[.string s,.int .i64 (p:Int)] w (rC s.data.toList p w):=by
 cases h1:oV s[p]
 ·cases h2:vQ s[p]
  ·cases h3:gM s[p]
   ·exact DR s p w hp hs h1 h2 h3
   ·exact DL s p w hp hs h1 h2 h3
  ·exact DK s p w hp hs h1 h2
 ·exact DJ s p w hp hs h1
theorem DT {q:UInt8->Bool}(l:List UInt8):(l.takeWhile q).length<=l.length:=by
 exact(List.takeWhile_prefix q).length_le
theorem fZ {l:List UInt8}{p:Nat}(hp:p<l.length):p+1<=lL l p/\lL l p<=l.length:=by
 refine⟨by unfold lL;omega,?_⟩;unfold lL;have a:=DT (q:=oV) (l.drop (p+1));have b:=DT (q:=Hu) (l.drop (p+1));have c:=DT (q:=gM) (l.drop (p+1));simp only[List.length_drop]at a b c;split
 ·omega
 ·split
  ·omega
  ·split
   ·omega
   ·split<;>omega
structure Tok where
 k:Nat
 n:Int
 p:Nat
 s:List UInt8
deriving DecidableEq,Repr
def bs (l:List UInt8):ByteArray:=⟨l.toArray⟩
theorem iN (l:List UInt8):(bs l).data.toList=l:=by simp[bs]
theorem KT (s:ByteArray):bs s.data.toList=s:=by cases s;simp[bs]
def xW (t:Tok):List Value:=[.int .i64 (t.k:Int),.int .i64 t.n,.int .i64 (t.p:Int),.string (bs t.s)]
def yH (ts:List Tok):List Value:=ts.flatMap xW
theorem wJ (t:Tok)(ts:List Tok):yH (t :: ts)=xW t++yH ts:=rfl
theorem zL (a b:List Tok):yH (a++b)=yH a++yH b:=by unfold yH;rw[List.flatMap_append]
theorem zM:∀(ts:List Tok) (j:Nat) (hj:j<ts.length) (i:Nat),i<4->(yH ts)[j*4+i]?=(xW ts[j])[i]?
 |t :: ts,0,_,i,hi=>by
  rw[wJ,List.getElem?_append_left (by simp[xW];omega)];simp
 |t :: ts,j+1,hj,i,hi=>by
  rw[wJ,List.getElem?_append_right (by simp[xW];omega)];have ih:=zM ts j (by simpa using hj) i hi;rw[show(j+1)*4+i-(xW t).length=j*4+i by simp[xW];omega,ih];rfl
def jU (w:World)(A:Option Addr)(ts:List Tok):Prop:=
 0<ts.length->∃b off,A=some ⟨b,off,none⟩/\b<w.heap.size/\∀j (hj:j<ts.length) i,i<4->w.cell? ⟨b,off+j*4+i,none⟩=(xW ts[j])[i]?
theorem jU.below {w w':World}{A:Option Addr}{ts:List Tok}(h:jU w A ts)(hb:Below w.heap.size w w'):jU w' A ts:=λh0=>by
 obtain⟨b,off,e,hl,hc⟩:=h h0;exact⟨b,off,e,Nat.lt_of_lt_of_le hl hb.size,λj hj i hi=>(hb.cell (p:=⟨b,off+j*4+i,none⟩) hl).trans (hc j hj i hi)⟩
theorem own_below {w w':World}{base e size n:Nat}{v:Value}{xs:List Value}(h:w.ownsRow base e size v n xs)(hb:Below w.heap.size w w'):w'.ownsRow base e size v n xs:=
 h.kept (row:=none) ⟨hb.os,hb.tape,hb.output,hb.size,λi hi _=>hb.block i hi⟩ (by cases h:v.ownBlock<;>simp)
theorem DU {w:World}{base:Nat}{v:Value}{ts:List Tok}(h:w.ownsRow base 105 4 v ts.length (yH ts)):∃A c,v=.slice A ts.length c/\jU w A ts/\∀a,A=some a->base<=a.block:=by
 rcases h.2 with⟨rfl,e⟩ |⟨g,cap,cur,rfl,hb,hg,hn,_,_,ht⟩
 ·exact⟨none,0,by rw[e],λh0=>by omega,λa e=>by cases e⟩
 ·refine⟨_,cap,rfl,λh0=>⟨g,0,rfl,(Array.getElem?_eq_some_iff.1 hg).1,λj hj i hi =>?_⟩,λa e=>by injection e with e;subst e;exact hb⟩;have h1:=zM ts j hj i hi;rw[<- ht,List.getElem?_take,if_pos (by omega)]at h1;rw[Nat.zero_add,cell_of_row w g (j*4+i) cur 105 (0,0) hg,<- h1];simp
inductive AZ where
 |ok (l:List Tok)
 |bad (p:Nat)
deriving DecidableEq
def AZ.pre (a:List Tok):AZ->AZ
 | .ok l =>.ok (a++l)
 | .bad p =>.bad p
theorem AZ.pre_nil (r:AZ):r.pre []=r:=by cases r<;>rfl
theorem AZ.pre_pre (a b:List Tok)(r:AZ):(r.pre b).pre a=r.pre (a++b):=by cases r<;>simp[AZ.pre]
def pI (n:Nat):Tok:=⟨5,0,n,[]⟩
def sub (l:List UInt8)(p q:Nat):List UInt8:=(l.drop p).take (q-p)
def rD (l:List UInt8)(p q:Nat):Tok:=⟨gQ (sub l p q),o7 (sub l p q),p,sub l p q⟩
def pJ:Nat->List UInt8->Nat->AZ
 |0,l,_ =>.ok [pI l.length]
 |f+1,l,p=>
  if p<l.length then
   if oV (l.getD p 0) || vQ (l.getD p 0) then pJ f l (lL l p)
   else if gQ (sub l p (lL l p))=0 then .bad p
   else (pJ f l (lL l p)).pre [rD l p (lL l p)]
  else .ok [pI l.length]
theorem tY:∀(f:Nat) (l:List UInt8) (p g:Nat),l.length-p<=f->l.length-p<=g->pJ f l p=pJ g l p
 |0,l,p,0,_,_=>rfl
 |0,l,p,g+1,h,_=>by simp only[pJ];rw[if_neg (by omega)]
 |f+1,l,p,0,_,h=>by simp only[pJ];rw[if_neg (by omega)]
 |f+1,l,p,g+1,h1,h2=>by
  simp only[pJ];by_cases hp:p<l.length
  ·have:=fZ hp;rw[if_pos hp,if_pos hp,tY f l (lL l p) g (by omega) (by omega)]
  ·rw[if_neg hp,if_neg hp]
def jl (l:List UInt8)(p:Nat):AZ:=pJ (l.length-p) l p
theorem DV {l:List UInt8}{p:Nat}(h:¬p<l.length):jl l p=.ok [pI l.length]:=by
 unfold jl;rw[show l.length-p=0 by omega];rfl
theorem pK {l:List UInt8}{p:Nat}(h:p<l.length):jl l p=if oV (l.getD p 0) || vQ (l.getD p 0) then jl l (lL l p)
   else if gQ (sub l p (lL l p))=0 then .bad p
   else (jl l (lL l p)).pre [rD l p (lL l p)]:=by
 have hb:=fZ h;unfold jl;obtain⟨m,hm⟩:∃m,l.length-p=m+1:=⟨l.length-p-1,by omega⟩;rw[hm];simp only[pJ];rw[if_pos h,tY m l (lL l p) (l.length-lL l p) (by omega) (by omega)]
theorem Js:(Tryz.prog.info? 105).map (λi=>(i.zero,i.size,i.bytes))=some (some (.agg #[.int .i64 0,.int .i64 0,.int .i64 0,.string ⟨#[]⟩]),4,40):=by kernel_rfl
def uW (l:List UInt8)(w:World)(e:Ending)(w':World):Prop:=
 Below w.heap.size w w'/\match jl l 0 with
  | .ok ts=>∃A c,e=.returned (.tuple #[.slice A ts.length c,.int .i64 0,.int .i64 0])/\jU w' A ts/\(∀a,A=some a->w.heap.size<=a.block)/\w'.ownsRow w.heap.size 105 4 (.slice A ts.length c) ts.length (yH ts)
  | .bad p=>e=.returned (.tuple #[.slice none 0 0,.int .i64 (p:Int),.int .i64 2])
theorem FZ {l:List UInt8}{w w':World}{p:Nat}(hb:Below w.heap.size w w')(h:jl l 0=.bad p):uW l w (.returned (.tuple #[.slice none 0 0,.int .i64 (p:Int),.int .i64 2])) w':=by
 refine⟨hb,?_⟩;rw[h]
theorem Jt {l:List UInt8}{w w':World}{ts:List Tok}{v:Value}(hb:Below w.heap.size w w')(h:jl l 0=.ok ts)(ho:w'.ownsRow w.heap.size 105 4 v ts.length (yH ts)):uW l w (.returned (.tuple #[v,.int .i64 0,.int .i64 0])) w':=by
 obtain⟨A,c,rfl,hT,hA⟩:=DU ho;refine⟨hb,?_⟩;rw[h];exact⟨A,c,rfl,hT,hA,ho⟩
def Nu (q:Nat)(w:World)(e:Ending)(w':World):Prop:=e=.returned (.int .i64 (q:Int))/\Below w.heap.size w w'
theorem F3 (s:ByteArray)(p q:Nat):(s.extract p q).data.toList=sub s.data.toList p q:=DI s p q
def lN (l:List UInt8)(p:Nat)(acc:List Tok):Prop:=jl l 0=(jl l p).pre acc/\acc.length<=p
theorem tZ {l:List UInt8}{p:Nat}{acc:List Tok}(h:lN l p acc)(hp:p<l.length)(hb:(oV (l.getD p 0) || vQ (l.getD p 0))=true):lN l (lL l p) acc:=by
 obtain⟨h1,h2⟩:=h;have:=fZ hp;refine⟨?_,by omega⟩;rw[h1,pK hp,if_pos hb]
theorem F4 {l:List UInt8}{p:Nat}{acc:List Tok}(h:lN l p acc)(hp:p<l.length)(hb:(oV (l.getD p 0) || vQ (l.getD p 0))=false)(ht:gQ (sub l p (lL l p))=0):jl l 0=.bad p:=by
 rw[h.1,pK hp,hb,ht];rfl
theorem F5 {l:List UInt8}{p:Nat}{acc:List Tok}(h:lN l p acc)(hp:p<l.length)(hb:(oV (l.getD p 0) || vQ (l.getD p 0))=false)(ht:gQ (sub l p (lL l p))≠0):lN l (lL l p) (acc++[rD l p (lL l p)]):=by
 have hB:=fZ hp;refine⟨?_,by have:=h.2;simp;omega⟩;rw[h.1,pK hp,hb,if_neg (by simp),if_neg ht,AZ.pre_pre]
theorem F6 {l:List UInt8}{p:Nat}{acc:List Tok}(h:lN l p acc)(hp:¬p<l.length):jl l 0=.ok (acc++[pI l.length]):=by
 rw[h.1,DV hp];rfl
theorem F7 (s:ByteArray)(w:World)(hE:nJ w)(hs:s.size<=20000):Calls Tryz.prog 99 #[.string s] w (uW s.data.toList w):=by
 obtain⟨i0,hi,hz0,hz1,hz2⟩:=info_parts Js;have HE:=hid hE;have HL:=hid (show s.data.toList.length=s.size by simp);clear hE;have hsz:¬(20000:Int)<(s.size:Int):=by omega
 go_enter Tryz.func99,Tryz.ntmps99
 go_wp2_with fail
 go_loopw [5,6] (λv i wr=>∃(p:Nat) (acc:List Tok),p<=s.size/\i=.int .i64 (p:Int)/\wr.ownsRow w.heap.size 105 4 v acc.length (yH acc)/\Below w.heap.size w wr/\lN s.data.toList p acc) (λ_ i _=>s.size-(intOf i).toNat)
 case atStart=>exact⟨0,[],Nat.zero_le _,rfl,World.ownsRow_nil _ _ _ _,Below.refl _ _,(AZ.pre_nil _).symm,by simp⟩
 case round=>
  obtain⟨p,acc,hp,rfl,hown,hb,hI⟩:=hrel;have hEr:=HE.out.below hb;by_cases hlt:p<s.size
  ·have hlz:(p:Int)<(s.size:Int):=by omega
   have HG:=hid (lJ s p hlt);have hpl:p<s.data.toList.length:=by rw[HL.out];exact hlt
   obtain⟨q,hq⟩:∃q,q=lL s.data.toList p:=⟨_,rfl⟩;have hq1:p+1<=q:=by rw[hq];exact(fZ hpl).1
   have hq2:q<=s.size:=by rw[hq,<- HL.out];exact(fZ hpl).2
   have hP:∀w',Calls Tryz.prog 159 #[.string s,.int .i64 (p:Int)] w' (Nu q w'):=λw'=>by rw[hq];exact AY s p w' hlt (by omega)
   have HP:=hid hP;have HQ:=hid hq;clear hP hq hpl;cases h1:oV s[p]
   ·cases h2:vQ s[p]
    ·obtain⟨x,hx⟩:∃x,x=s.extract p q:=⟨_,rfl⟩;have hsl:∀w',(Instr.slice 9 (.string s) (some (.int .i64 (p:Int))) (some (.int .i64 (q:Int))) none).run Tryz.prog w' = .ok (.string x) w':=by
      rw[hx];exact tX s p q (q:Int) rfl (by omega) hq2
     have HX:=hid (show x.data.toList=sub s.data.toList p q by rw[hx];exact F3 s p q);have hxs:x.size<=281474976710656:=by
      have:x.data.toList.length<=s.size:=by rw[HX.out];unfold sub;simp;omega
      simp at this;omega
     clear hx;go_wp2_with (first|(go_at_call 159;refine(HP.out _).mono ?_;rintro e w1 ⟨rfl,hb1⟩) |(go_at_call 160;refine(gm _ _).mono ?_;rintro e w' ⟨rfl,rfl⟩) |(go_at_call 161;refine(eP _ _).mono ?_;rintro e w' ⟨rfl,rfl⟩) |(go_at_call 162;refine(vT x p _ (hEr.below hb1) hxs).mono ?_));rintro e w2 ⟨ht,hb2⟩;rcases ht with⟨hk,rfl⟩ |⟨hk,rfl⟩
     ·have HK:=hid hk;clear hk;go_wp2;refine bodyPost_ret (v :=.tuple #[.slice none 0 0,.int .i64 (p:Int),.int .i64 2]) (by simp[results,Tryz.results99,go_sem]) rfl (FZ ((bt (bt hb hb1) hb2).alloc (by have:=(bt (bt hb hb1) hb2).size;omega) _) (F4 hI (by rw[HL.out];exact hlt) (by rw[HG.out,h1,h2];rfl) ?_));rw[<- HQ.out,<- HX.out];exact HK.out
     ·have HK:=hid hk;clear hk;have hown2:=own_below (own_below hown hb1) hb2;have hbb:=bt (bt hb hb1) hb2;have hal:acc.length<=20000:=by have:=hI.2;omega
      have HT:=hid (show xW (rD s.data.toList p q)=[.int .i64 (gQ x.data.toList:Int),.int .i64 (o7 x.data.toList),.int .i64 (p:Int),.string x]by unfold xW rD;rw[<- HX.out,KT]);have hI2:lN s.data.toList q (acc++[rD s.data.toList p q]):=by
       rw[HQ.out];exact F5 hI (by rw[HL.out];exact hlt) (by rw[HG.out,h1,h2];rfl) (by rw[<- HQ.out,<- HX.out];exact HK.out)
      clear HP HX hsl hb1 hb2 hown hb hI hEr;generalize gQ x.data.toList=kk at *
      generalize o7 x.data.toList=nn at *
      go_wp2_with (first
       |(at_builtin;refine wpList_append_own _ rfl _ _ 60 rfl w.heap.size 105 i0 (.agg #[.int .i64 0,.int .i64 0,.int .i64 0,.string ⟨#[]⟩]) 4 40 Tryz.underlying60 hi hz0 hz1 hz2 rfl (by decide) _ _ _ rfl ((hown2.alloc _).alloc _) ⟨w2.heap.size+1,0,none⟩ 1 1 [.int .i64 (kk:Int),.int .i64 nn,.int .i64 (p:Int),.string x] rfl rfl ?c1 ?c2 ?c3 ?c4 ?c5 ?_))
      case c1=>
       intro j v hj
       match j,hj with
       |0,hj=>simp at hj;subst hj;simp[Addr.add]
       |1,hj=>simp at hj;subst hj;simp[Addr.add]
       |2,hj=>simp at hj;subst hj;simp[Addr.add]
       |3,hj=>simp at hj;subst hj;simp[Addr.add]
      case c2=>intro v hv;simp at hv;rcases hv with rfl |rfl |rfl |rfl<;>rfl
      case c3=>unfold maxLen;omega
      case c4=>omega
      case c5=>have:=hbb.size;simp;omega
      intro v' w4 hown4 hgrow4 _;have hb4:Below w.heap.size w w4:=((hbb.alloc hbb.size _).alloc (by have:=hbb.size;simp;omega) _).grown hgrow4 (by have:=hbb.size;simp;omega) (λq hq=>(hown2.lt q hq).1);have hown5:w4.ownsRow w.heap.size 105 4 v' (acc++[rD s.data.toList p q]).length (yH (acc++[rD s.data.toList p q])):=by
       rw[zL,List.length_append,show yH [rD s.data.toList p q]=xW (rD s.data.toList p q)from rfl,HT.out];exact hown4
      clear hown4 hgrow4 hown2 hbb HT;go_wp2
      go_roundw
      case rel=>exact⟨q,_,hq2,rfl,hown5,hb4,hI2⟩
      case measure=>simp[intOf];omega
    ·go_wp2_with (first|(go_at_call 159;refine(HP.out _).mono ?_;rintro e w1 ⟨rfl,hb1⟩) |(go_at_call 160;refine(gm _ _).mono ?_;rintro e w' ⟨rfl,rfl⟩) |(go_at_call 161;refine(eP _ _).mono ?_;rintro e w' ⟨rfl,rfl⟩))
     go_roundw
     case rel=>exact⟨q,acc,hq2,rfl,own_below hown hb1,bt hb hb1,by rw[HQ.out];exact tZ hI (by rw[HL.out];exact hlt) (by rw[HG.out,h2];simp)⟩
     case measure=>simp[intOf];omega
   ·go_wp2_with (first|(go_at_call 159;refine(HP.out _).mono ?_;rintro e w1 ⟨rfl,hb1⟩) |(go_at_call 160;refine(gm _ _).mono ?_;rintro e w' ⟨rfl,rfl⟩) |(go_at_call 161;refine(eP _ _).mono ?_;rintro e w' ⟨rfl,rfl⟩))
    go_roundw
    case rel=>exact⟨q,acc,hq2,rfl,own_below hown hb1,bt hb hb1,by rw[HQ.out];exact tZ hI (by rw[HL.out];exact hlt) (by rw[HG.out,h1];simp)⟩
    case measure=>simp[intOf];omega
  ·have hlz:¬(p:Int)<(s.size:Int):=by omega
   have hR:=F6 hI (by rw[HL.out];exact hlt);have hal:acc.length<=20000:=by have:=hI.2;omega
   have HT:=hid (show xW (pI s.data.toList.length)=[.int .i64 5,.int .i64 0,.int .i64 (s.size:Int),.string ⟨#[]⟩]by unfold xW pI;rw[HL.out];rfl);have HR:=hid hR;clear hR hI hEr;go_wp2_with (first
    |(at_builtin;refine wpList_append_own _ rfl _ _ 60 rfl w.heap.size 105 i0 (.agg #[.int .i64 0,.int .i64 0,.int .i64 0,.string ⟨#[]⟩]) 4 40 Tryz.underlying60 hi hz0 hz1 hz2 rfl (by decide) _ _ _ rfl (hown.alloc _) ⟨wr.heap.size,0,none⟩ 1 1 [.int .i64 5,.int .i64 0,.int .i64 (s.size:Int),.string ⟨#[]⟩] rfl rfl ?d1 ?d2 ?d3 ?d4 ?d5 ?_))
   case d2=>exact⟨rfl,rfl,rfl,rfl⟩
   case d3=>unfold maxLen;omega
   case d4=>omega
   case d5=>have:=hb.size;simp;omega
   intro v' w4 hown4 hgrow4 _;have hb4:Below w.heap.size w w4:=(hb.alloc hb.size _).grown hgrow4 (by have:=hb.size;simp;omega) (λq hq=>(hown.lt q hq).1);have hown5:w4.ownsRow w.heap.size 105 4 v' (acc++[pI s.data.toList.length]).length (yH (acc++[pI s.data.toList.length])):=by
    rw[zL,List.length_append,show yH [pI s.data.toList.length]=xW (pI s.data.toList.length)from rfl,HT.out];exact hown4
   clear hown4 hgrow4 hown hb HT;go_wp2;exact bodyPost_ret (v :=.tuple #[v',.int .i64 0,.int .i64 0]) (by simp[results,Tryz.results99,go_sem]) rfl (Jt hb4 HR.out hown5)
end Tk
section
open Tr (Bx ag bt ak aB aa av)
def zO (t:Tk.Tok):Tok:=⟨t.k,t.n,t.p,t.s⟩
theorem F8 (l:List UInt8):Tk.gQ l<=4:=by
 unfold Tk.gQ;split
 ·exact Nat.le_refl _
 split
 ·decide
 split
 ·decide
 split
 ·decide
 ·decide
theorem pM:∀(f:Nat) (l:List UInt8) (p:Nat) (ts:List Tk.Tok),Tk.pJ f l p=.ok ts->∃ms:List Tk.Tok,ts=ms++[Tk.pI l.length]/\ms.length<=f/\∀t ∈ ms,t.k=Tk.gQ t.s/\t.k≠0/\t.s≠[]
 |0,l,p,ts,h=>by
  simp only[Tk.pJ]at h;injection h with h
  exact⟨[],by rw[<- h];rfl,Nat.le_refl _,λt ht=>by cases ht⟩
 |f+1,l,p,ts,h=>by
  simp only[Tk.pJ]at h;split at h
  case isFalse=>
   injection h with h
   exact⟨[],by rw[<- h];rfl,Nat.zero_le _,λt ht=>by cases ht⟩
  case isTrue hp=>
   split at h
   ·obtain⟨ms,a,b,c⟩:=pM f l _ ts h;exact⟨ms,a,Nat.le_succ_of_le b,c⟩
   split at h
   ·cases h
   ·rename_i h0;cases h1:Tk.pJ f l (Tk.lL l p) with
    |bad q=>rw[h1]at h;cases h
    |ok us=>
     rw[h1]at h;obtain⟨ms,a,b,c⟩:=pM f l _ us h1;simp only[Tk.AZ.pre]at h;injection h with h
     refine⟨Tk.rD l p (Tk.lL l p) :: ms,by rw[<- h,a];rfl,by rw[List.length_cons];omega,λt ht =>?_⟩;rcases List.mem_cons.1 ht with rfl |ht
     ·refine⟨rfl,h0,λe =>?_⟩;have e:Tk.sub l p (Tk.lL l p)=[]:=e;have e2:=congrArg List.length e;have hb:=Tk.fZ hp;simp[Tk.sub]at e2;omega
     ·exact c t ht
theorem wK {l:List UInt8}{ts:List Tk.Tok}(h:Tk.jl l 0=.ok ts):∃ms:List Tk.Tok,ts=ms++[Tk.pI l.length]/\ms.length<=l.length/\∀t ∈ ms,t.k=Tk.gQ t.s/\t.k≠0/\t.s≠[]:=by
 obtain⟨ms,a,b,c⟩:=pM (l.length-0) l 0 ts h;exact⟨ms,a,by omega,c⟩
theorem DW {ms:List Tk.Tok}{n:Nat}:(ms++[Tk.pI n]).map zO=ms.map zO++[⟨5,0,n,[]⟩]:=by rw[List.map_append];rfl
theorem KU {l:List UInt8}{ts:List Tk.Tok}(h:Tk.jl l 0=.ok ts):nT (ts.map zO):=by
 obtain⟨ms,rfl,hl,hm⟩:=wK h;rw[DW];have hlen:(ms.map zO++[(⟨5,0,l.length,[]⟩:Tok)]).length=ms.length+1:=by rw[List.length_append,List.length_map];rfl
 refine⟨by rw[hlen];omega,λi hi h1 =>?_,λi hi h1 =>?_,λhi =>?_,λhi =>?_⟩
 ·rw[hlen]at h1;rw[List.getElem_append_left (by rw[List.length_map];omega),List.getElem_map];exact(hm _ (List.getElem_mem _)).2.2
 ·rw[hlen]at h1;rw[List.getElem_append_left (by rw[List.length_map];omega),List.getElem_map];show ms[i].k≠5;have a:=hm _ (List.getElem_mem (show i<ms.length by omega));have b:=F8 ms[i].s;rw[a.1];omega
 ·rw[List.getElem_append_right (by rw[hlen,List.length_map];omega)];simp
 ·rw[List.getElem_append_right (by rw[hlen,List.length_map];omega)];simp
theorem Ju {l:List UInt8}{ts:List Tk.Tok}(h:Tk.jl l 0=.ok ts):ts.length<=l.length+1:=by
 obtain⟨ms,rfl,hl,_⟩:=wK h;rw[List.length_append];show ms.length+1<=_;omega
theorem F9 {w:World}{A:Option Addr}{ts:List Tk.Tok}(h:Tk.jU w A ts):jU w A (ts.map zO):=λh0=>by
 obtain⟨b,off,e,hl,hc⟩:=h (by rwa [List.length_map]at h0);refine⟨b,off,e,hl,λj hj i hi =>?_⟩;rw[hc j (by rwa [List.length_map]at hj) i hi,List.getElem_map];rfl
def jF (x:Nd):Tr.Nd:=⟨x.kd,x.n,x.pl,bs x.tx,x.ks⟩
theorem uX {X:Nat->Prop}{w:World}{K:Option Addr}{ks:List Int}(h:Kd w X K ks):Tr.Ints w K ks:=λh0=>by
 obtain⟨b,cs,e,hb,hc,_⟩:=h h0;refine⟨b,0,e,(Array.getElem?_eq_some_iff.1 hb).1,λj hj =>?_⟩;rw[Nat.zero_add,cell_of_row w b j cs 3 (0,0) hb];exact hc j hj
theorem Jv {X:Nat->Prop}{w:World}{base:Nat}{V:Value}{nd:List Nd}(h:fF w X base V nd):∃A c,V=.slice A nd.length c/\Tr.bu w A (nd.map jF)/\∀a,A=some a->base<=a.block:=by
 obtain⟨xs,hown,hcs⟩:=h;have hcell:=λ(b:Nat) (q:V.ownBlock=some b)=>hown.cells (g:=b) q
 rcases hown.2 with⟨e1,e2⟩ |⟨b,cap,cur,e1,e2,e3,_⟩
 ·refine⟨none,0,by rw[e1,e2],λh0 =>?_,λa e=>(by cases e)⟩;rw[List.length_map]at h0;omega
 ·refine⟨_,cap,e1,λh0=>⟨b,0,rfl,(Array.getElem?_eq_some_iff.1 e3).1,λj hj =>?_⟩,λa e=>by injection e with e;subst e;exact e2⟩;rw[List.length_map]at hj;obtain⟨K,c,e,hk,_⟩:=hcs j hj;have hc:=hcell b (by rw[e1];rfl);have get:∀i u,i<5->([.int .i64 nd[j].kd,.int .i64 nd[j].n,.int .i64 nd[j].pl,.string (bs nd[j].tx),.slice K nd[j].ks.length c]:List Value)[i]?=some u->w.cell? ⟨b,0+j*5+i,none⟩=some u:=λi u hi hu=>by
   rw[<- e,List.getElem?_take,if_pos hi,List.getElem?_drop]at hu;have:=hc _ _ hu;rw[Nat.zero_add]
   rwa [show(⟨b,0,none⟩:Addr).add (j*5+i)=⟨b,j*5+i,none⟩by simp[Addr.add];omega]at this
  simp only[List.getElem_map];refine⟨K,c,?_,get 1 _ (by decide) rfl,get 2 _ (by decide) rfl,get 3 _ (by decide) rfl,get 4 _ (by decide) rfl,uX hk⟩;have:=get 0 _ (by decide) rfl
  rwa [Nat.add_zero]at this
theorem uY {w:World}(A:Option Addr)(c n:Nat)(l:List Tr.Nd)(r:Int)(hN:Tr.bu w A l)(hn:n=l.length)(hk:∀x ∈ l,x.ks.length<=l.length):Calls Tryz.prog 101 #[.agg #[.slice A n c,.int .i64 r]] w (aG (.int .i64 (if 4000<n then 8 else if 40<Tr.jQ l r then 6 else 0)) w):=by
 have hb:Below w.heap.size w (w.alloc (.cells #[.slice A n c,.int .i64 r] 25)):=ag _ _;by_cases h4:4000<n
 ·rw[if_pos h4];have d:((4000:Int)<(n:Int)):=by omega
  clear hN hn hk h4;go_enter Tryz.func101,Tryz.ntmps101
  go_wp2
  go_ret
  exact⟨rfl,hb⟩
 ·rw[if_neg h4];have d:¬((4000:Int)<(n:Int)):=by omega
  have HD:=hid (Tr.tH A c n l r _ (hN.below hb) hn (λx hx=>by have:=hk x hx;omega));generalize Tr.jQ l r=dd at *
  by_cases h5:40<dd
  ·rw[if_pos h5];have d5:((40:Int)<(dd:Int)):=by omega
   clear hN hn hk h4 h5;go_enter Tryz.func101,Tryz.ntmps101
   go_wp2_with (go_at_call 31;refine HD.out.mono ?_;rintro e w1 ⟨rfl,hb1⟩)
   go_ret
   exact⟨rfl,bt hb hb1⟩
  ·rw[if_neg h5];have d5:¬((40:Int)<(dd:Int)):=by omega
   clear hN hn hk h4 h5;go_enter Tryz.func101,Tryz.ntmps101
   go_wp2_with (go_at_call 31;refine HD.out.mono ?_;rintro e w1 ⟨rfl,hb1⟩)
   go_ret
   exact⟨rfl,bt hb hb1⟩
end
end Go.Proofs.YteecfjhjllajlaaGreatDoor
