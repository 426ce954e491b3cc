/- PROVED: Qk TkI TkK Qm. No more condition. -/
import Derived.Test.YteecfjhjllajlaaGreatDoorM01
import Derived.Laws.Strings2
import Derived.Test.YteecfjhjllajlaaGreatDoorM20
set_option maxHeartbeats 4000000
set_option maxRecDepth 100000
namespace Go.Proofs.YteecfjhjllajlaaGreatDoor
open Go.Lib (hid)
open Go Go.RowKit
def KI (s:St):Prop:=∀x ∈ s.nd,x.ks.length<=s.nd.length
def Kc (n:Nat)(s:St)(b:Nat)(r:Rs):Prop:=∀v s',r=.ok v s'->(v.length+n<=s'.nd.length+b/\s.nd.length<=s'.nd.length)/\(KI s->KI s')
theorem Kc.bind {n n0 b b0:Nat}{s:St}{r:Rs}{f:List Int->St->Rs}(h:Kc n s b r)(q:∀v s',v.length+n<=s'.nd.length+b->s.nd.length<=s'.nd.length->Kc n0 s' b0 (f v s')):Kc n0 s b0 (r.bind f):=λv s' e=>by
 obtain⟨v1,s1,e1,e2⟩:=Rs.bind_ok e;have a:=h v1 s1 e1;have c:=q v1 s1 a.1.1 a.1.2 v s' e2;exact⟨⟨c.1.1,Nat.le_trans a.1.2 c.1.2⟩,λk=>c.2 (a.2 k)⟩
theorem dw {n b:Nat}{s:St}{kd m pl:Int}{tx:List UInt8}{ks:List Int}(hk:ks.length<=s.nd.length)(hn:n<=s.nd.length+b):Kc n s b (bC kd m pl tx ks s):=λv s' e=>by
 unfold bC at e;injection e with e1 e2;subst e1;subst e2
 refine⟨⟨by simp only[List.length_cons,List.length_nil,List.length_append];omega,by simp only[List.length_append];omega⟩,λh x hx =>?_⟩;have hx:x ∈ s.nd++[⟨kd,m,pl,tx,ks⟩]:=hx;show x.ks.length<=(s.nd++[(⟨kd,m,pl,tx,ks⟩:Nd)]).length;rw[List.length_append];rcases List.mem_append.1 hx with hx |hx
 ·have:=h x hx;omega
 ·obtain rfl:=List.mem_singleton.1 hx;show ks.length<=_;omega
theorem gN {n b:Nat}{s:St}{v:List Int}(h:v.length+n<=s.nd.length+b):Kc n s b (.ok v s):=λv' s' e=>by
 injection e with e1 e2;subst e1;subst e2;exact⟨⟨h,Nat.le_refl _⟩,id⟩
theorem uM {n b:Nat}{s:St}{p e:Nat}:Kc n s b (.no p e):=λv s' h=>by cases h
theorem mW {n b:Nat}{s:St}:Kc n s b .out:=λv s' h=>by cases h
theorem xR {s s':St}{b:Nat}(e:s'.nd=s.nd):Kc s.nd.length s b (.ok [] s'):=λv s2 h=>by
 injection h with e1 e2;subst e1;subst e2
 exact⟨⟨by rw[e];simp,by rw[e];exact Nat.le_refl _⟩,λk x hx=>by rw[e]at hx |-;exact k x hx⟩
section
variable {ts:List Tok} {s:St} {x:List UInt8}
theorem mX:Kc s.nd.length s 0 (gJ ts x s):=by
 unfold gJ;split
 ·exact xR rfl
 ·exact uM
theorem mY:Kc s.nd.length s 0 (fJ ts s):=by
 unfold fJ;split
 ·exact xR rfl
 ·exact uM
theorem Ga:Kc s.nd.length s 0 (mM ts s):=by
 unfold mM;split
 ·exact xR rfl
 ·exact uM
theorem qa:Kc s.nd.length s 0 (iw ts x s):=by
 unfold iw;split
 ·exact uM
 ·exact mX.bind λv s' a b=>(show Kc s.nd.length s' 0 _ from gN (by rw[List.length_nil];show 0+s.nd.length<=s'.nd.length+0;omega))
theorem uN:Kc s.nd.length s 0 (jv ts x s):=by
 unfold jv;exact mX.bind λv s' a b=>(show Kc s.nd.length s' 0 _ from gN (by rw[List.length_nil];show 0+s.nd.length<=s'.nd.length+0;omega))
theorem Cq:Kc s.nd.length s 1 (iB ts s):=by
 unfold iB;simp only;split
 ·exact uM
 ·exact gN (s:=ae s) (by rw[List.length_singleton];show 1+s.nd.length<=s.nd.length+1;omega)
theorem xS {kd:Nat}:Kc s.nd.length s 0 (gp ts kd s):=by
 unfold gp;simp only;exact mY.bind λv s1 a b=>dw (Nat.zero_le _) (by omega)
theorem uO {kd:Nat}{pl:Int}:Kc s.nd.length s 0 (d_ ts kd pl s):=by
 unfold d_;simp only;exact mY.bind λv s1 a b=>Cq.bind λv2 s2 a2 b2=>dw (Nat.zero_le _) (by omega)
theorem Cr {kd:Nat}:Kc s.nd.length s 0 (gD ts kd s):=by
 unfold gD;simp only;exact(show Kc s.nd.length (ae s) 0 _ from(mY (s:=ae s)).bind λv s1 a b=>dw (Nat.zero_le _) (by have c:(ae s).nd.length=s.nd.length:=rfl;omega))
theorem mg {v:List Int}{n:Nat}(h:v.length+n<=s.nd.length):Kc n s 0 (bJ ts v s):=by
 unfold bJ;exact mX.bind λ_ s1 a b=>gN (by omega)
end
def Mi (rec:nI->St->Rs):Prop:=∀s,Kc s.nd.length s 0 (rec .una s)/\(∀r,Kc s.nd.length s 0 (rec (.bin r) s))/\(∀r (l:List Int) n,l.length+n<=s.nd.length->Kc n s 0 (rec (.loop r l) s))/\(∀(a:List Int) n,a.length+n<=s.nd.length->Kc n s 0 (rec (.exprs a) s))/\Kc s.nd.length s 0 (rec .stmt s)/\(∀p (a:List Int) n,a.length+n<=s.nd.length->Kc n s 0 (rec (.stmts p a) s))/\(∀k (a:List Int) n,a.length+n<=s.nd.length->Kc n s 0 (rec (.vars k a) s))/\(∀(a:List Int) n,a.length+n<=s.nd.length->Kc n s 0 (rec (.params a) s))/\∀(a:List Int) n,a.length+n<=s.nd.length->Kc n s 0 (rec (.procs a) s)
theorem fC {n b:Nat}{s:St}{r:Rs}(h:Kc n (ae s) b r):Kc n s b r:=h
theorem fM (s:St):(ae s).nd.length=s.nd.length:=rfl
section
variable {ts:List Tok} {rec:nI->St->Rs} (hr:Mi rec) {s:St}
include hr
theorem gP:Kc s.nd.length s 0 (a_ rec s):=(hr s).2.1 1
theorem Gb:Kc s.nd.length s 0 (lv ts rec s):=by
 unfold lv;exact qa.bind λ_ s1 a b=>(gP hr).bind λv s2 a2 b2=>uN.bind λ_ s3 a3 b3=>gN (by omega)
theorem J_:Kc s.nd.length s 0 (iy ts rec s):=by
 unfold iy;simp only;refine mY.bind λ_ s1 a b =>?_
 split
 ·exact(Gb hr).bind λv s2 a2 b2=>dw (by omega) (by omega)
 ·exact dw (Nat.zero_le _) (by omega)
theorem Ka:Kc s.nd.length s 0 (iA ts rec s):=by
 unfold iA;simp only;exact qa.bind λ_ s1 a b=>(hr s1).1.bind λv s2 a2 b2=>(show Kc s.nd.length s2 0 _ from dw (s := {s2 with op:=s2.op-1}) (show v.length<=s2.nd.length by omega) (show s.nd.length<=s2.nd.length+0 by omega))
theorem NQ:Kc s.nd.length s 0 (bf ts rec s):=by
 unfold bf;simp only;split
 ·exact J_ hr
 split
 ·exact fC (dw (Nat.zero_le _) (Nat.le_refl _))
 split
 ·exact Ka hr
 split
 ·exact fC (dw (Nat.zero_le _) (Nat.le_refl _))
 split
 ·exact Cr
 split
 ·exact Cr
 split
 ·exact qa.bind λ_ s1 a b=>(gP hr).bind λv s2 a2 b2=>uN.bind λ_ s3 a3 b3=>gN (by omega)
 ·exact uM
theorem NR {r:Nat}:Kc s.nd.length s 0 (iY rec r s):=by
 unfold iY;split
 ·exact(hr s).1
 ·exact((hr s).2.1 _).bind λv s1 a b=>(hr s1).2.2.1 _ _ _ (by omega)
theorem Kb {r n:Nat}{l:List Int}(h:l.length+n<=s.nd.length):Kc n s 0 (jl ts rec r l s):=by
 unfold jl;simp only;split
 ·refine fC (((hr (ae s)).2.1 _).bind λv s1 a b=>(dw (n:=n) (b:=0) (by rw[List.length_append];have:=fM s;omega) (by have:=fM s;omega)).bind λv2 s2 a2 b2=>(hr s2).2.2.1 _ _ _ (by omega))
 ·exact gN (by omega)
theorem Gc {a:List Int}{n:Nat}(h:a.length+n<=s.nd.length):Kc n s 0 (eQ ts rec a s):=by
 unfold eQ;split
 ·exact fC ((gP hr).bind λv s1 c d=>(hr s1).2.2.2.1 _ _ (by rw[List.length_append];have:=fM s;omega))
 ·exact uN.bind λ_ s1 c d=>gN (by omega)
theorem Ke:Kc s.nd.length s 0 (jb ts rec s):=by
 unfold jb;refine qa.bind λ_ s1 a b =>?_
 split
 ·exact(hr s1).2.2.2.1 _ _ (by rw[List.length_nil];omega)
 ·exact(gP hr).bind λv s2 c d=>(hr s2).2.2.2.1 _ _ (by omega)
theorem Cs {tx:List UInt8}{pl:Int}:Kc s.nd.length s 0 (gq ts rec tx pl s):=by
 unfold gq;exact mX.bind λ_ s1 a b=>xS.bind λv s2 c d=>(Ke hr).bind λv3 s3 e f=>dw (by rw[List.length_append];omega) (by omega)
theorem nX:Kc s.nd.length s 0 (dm ts rec s):=by
 unfold dm;simp only;exact qa.bind λ_ s1 a b=>(hr s1).2.2.2.2.2.1 _ _ _ (by rw[List.length_nil];omega)
theorem Gd {pl:Int}{a:List Int}{n:Nat}(h:a.length+n<=s.nd.length):Kc n s 0 (fV ts rec pl a s):=by
 unfold fV;split
 ·exact uN.bind λ_ s1 c d=>dw (by omega) (by omega)
 ·exact(hr s).2.2.2.2.1.bind λv s1 c d=>(hr s1).2.2.2.2.2.1 _ _ _ (by rw[List.length_append];omega)
theorem Kg {t:Tok}:Kc s.nd.length s 0 (bI ts rec t s):=by
 unfold bI;simp only;split
 ·exact fC (xS.bind λv s1 a b=>dw (by have:=fM s;omega) (by have:=fM s;omega))
 split
 ·exact Cs hr
 split
 ·exact fC ((gP hr).bind λv s1 a b=>dw (by have:=fM s;omega) (by have:=fM s;omega))
 ·exact(gP hr).bind λv s1 a b=>dw (by omega) (by omega)
theorem Gf:Kc s.nd.length s 0 (d9 ts rec s):=by
 unfold d9;simp only;refine mY.bind λ_ s1 a b =>?_
 split
 ·exact(Gb hr).bind λi s2 c d=>mX.bind λ_ s3 e f=>(gP hr).bind λv s4 g h=>(dw (n:=s4.nd.length) (b:=0) (by rw[List.length_append];omega) (by omega)).bind λv5 s5 k l=>mg (by omega)
 ·exact mX.bind λ_ s3 e f=>(Kg hr).bind λv s4 g h=>mg (by omega)
theorem Kh:Kc s.nd.length s 0 (lT ts rec s):=by
 unfold lT;simp only;exact fC (xS.bind λi s2 c d=>(gP hr).bind λv s4 g h=>(dw (n:=s4.nd.length) (b:=0) (by rw[List.length_append];have:=fM s;omega) (by omega)).bind λv5 s5 k l=>mg (by have:=fM s;omega))
theorem Qi:Kc s.nd.length s 0 (vX ts rec s):=by
 unfold vX;simp only;refine fC ((gP hr).bind λv s1 a b=>(nX hr).bind λv2 s2 c d =>?_);split
 ·exact fC ((nX hr).bind λv3 s3 e f=>dw (by rw[List.length_append,List.length_append];have:=fM s;have:=fM s2;omega) (by have:=fM s;have:=fM s2;omega))
 ·exact(dw (n:=s2.nd.length) (b:=0) (Nat.zero_le _) (by omega)).bind λv3 s3 e f=>dw (by rw[List.length_append,List.length_append];have:=fM s;omega) (by have:=fM s;omega)
theorem Gg:Kc s.nd.length s 0 (h_ ts rec s):=by
 unfold h_;simp only;exact fC ((gP hr).bind λv s1 a b=>(nX hr).bind λv2 s2 c d=>dw (by rw[List.length_append];have:=fM s;omega) (by have:=fM s;omega))
theorem DJ:Kc s.nd.length s 0 (cO ts rec s):=by
 unfold cO;simp only;refine fC ?_;split
 ·exact dw (Nat.zero_le _) (Nat.le_refl _)
 ·exact(gP hr).bind λv s1 a b=>dw (by have:=fM s;omega) (by have:=fM s;omega)
theorem Gh:Kc s.nd.length s 0 (iM ts rec s):=by
 unfold iM;simp only;exact fC ((gP hr).bind λv s1 a b=>dw (by have:=fM s;omega) (by have:=fM s;omega))
theorem NS:Kc s.nd.length s 0 (lU ts rec s):=by
 unfold lU;simp only;exact fC ((nX hr).bind λv s1 a b=>mX.bind λ_ s2 c d=>mY.bind λ_ s3 e f=>(nX hr).bind λv4 s4 g h=>dw (by rw[List.length_append];have:=fM s;omega) (by have:=fM s;omega))
theorem Ki:Kc s.nd.length s 0 (aO ts rec s):=by
 unfold aO;simp only;split
 ·exact Gf hr
 split
 ·exact Kh hr
 split
 ·exact Qi hr
 split
 ·exact Gg hr
 split
 ·exact(Cs hr).bind λv s1 a b=>mg (by omega)
 split
 ·exact(DJ hr).bind λv s1 a b=>mg (by omega)
 split
 ·exact(Gh hr).bind λv s1 a b=>mg (by omega)
 split
 ·exact NS hr
 ·exact uM
theorem Kj {k:Nat}{a:List Int}{n:Nat}(h:a.length+n<=s.nd.length):Kc n s 0 (jm ts rec k a s):=by
 unfold jm;split
 ·exact fC (uO.bind λv s1 c d=>mX.bind λ_ s2 e f=>(hr s2).2.2.2.2.2.2.1 _ _ _ (by rw[List.length_append];have:=fM s;omega))
 ·exact gN (by omega)
theorem DK {a:List Int}{n:Nat}(h:a.length+n<=s.nd.length):Kc n s 0 (dD ts rec a s):=by
 unfold dD ib;split
 ·exact fC (uO.bind λv s1 c d=>(hr s1).2.2.2.2.2.2.2.1 _ _ (by rw[List.length_append];have:=fM s;omega))
 ·exact uN.bind λ_ s1 c d=>gN (by omega)
theorem Gi:Kc s.nd.length s 0 (fZ ts rec s):=by
 unfold fZ ib;refine qa.bind λ_ s1 a b =>?_
 split
 ·exact(hr s1).2.2.2.2.2.2.2.1 _ _ (by rw[List.length_nil];omega)
 ·exact uO.bind λv s2 c d=>(hr s2).2.2.2.2.2.2.2.1 _ _ (by omega)
theorem Kk:Kc s.nd.length s 0 (jc ts rec s):=by
 unfold jc;simp only;refine mX.bind λ_ s1 a b=>mY.bind λ_ s2 c d=>(Gi hr).bind λv3 s3 e f=>Kc.bind (n:=s3.nd.length) (b:=1) ?_ λv4 s4 g h=>qa.bind λ_ s5 i j=>((hr s5).2.2.2.2.2.2.1 _ _ s5.nd.length (by rw[List.length_nil];omega)).bind λv6 s6 k l=>((hr s6).2.2.2.2.2.1 _ _ s6.nd.length (by rw[List.length_nil];omega)).bind λv7 s7 m n=>dw (by rw[List.length_append,List.length_append];omega) (by omega)
 split
 ·exact gN (by rw[List.length_singleton];omega)
 ·exact Cq
theorem Gj {a:List Int}{n:Nat}(h:a.length+n<=s.nd.length):Kc n s 0 (f_ ts rec a s):=by
 unfold f_;split
 ·exact(Kk hr).bind λv s1 c d=>(hr s1).2.2.2.2.2.2.2.2 _ _ (by rw[List.length_append];omega)
 ·exact gN (by omega)
theorem Kl:Kc s.nd.length s 0 (kI ts rec s):=by
 unfold kI;exact(gP hr).bind λv s1 a b=>Ga.bind λ_ s2 c d=>gN (by omega)
theorem AX:Kc s.nd.length s 0 (bT ts rec s):=by
 unfold bT;exact((hr s).2.2.2.2.2.2.1 _ _ s.nd.length (by rw[List.length_nil];omega)).bind λv s1 a b=>((hr s1).2.2.2.2.2.2.2.2 _ s.nd.length (by omega)).bind λv2 s2 c d=>Ga.bind λ_ s3 e f=>dw (by omega) (by omega)
end
theorem AY (ts:List Tok):∀f,Mi (run ts f)
 |0=>λ_=>⟨mW,λ_=>mW,λ_ _ _ _=>mW,λ_ _ _=>mW,mW,λ_ _ _ _=>mW,λ_ _ _ _=>mW,λ_ _ _=>mW,λ_ _ _=>mW⟩
 |f+1=>λ_=>
  have hr:=AY ts f
  ⟨NQ hr,λ_=>NR hr,λ_ _ _ h=>Kb hr h,λ_ _ h=>Gc hr h,Ki hr,λ_ _ _ h=>Gd hr h,λ_ _ _ h=>Kj hr h,λ_ _ h=>DK hr h,λ_ _ h=>Gj hr h⟩
theorem wE {ts:List Tok}{v:List Int}{s:St}(h:jd ts=.ok v s):∀x ∈ s.nd,x.ks.length<=s.nd.length:=(AX (AY ts _) v s h).2 (λx hx=>by cases hx)
theorem DL {ts:List Tok}{v:List Int}{s:St}(h:pq ts=.ok v s):∀x ∈ s.nd,x.ks.length<=s.nd.length:=(Kl (AY ts _) v s h).2 (λx hx=>by cases hx)
namespace Tk
def vK (c:UInt8):Bool:=c.toNat != 10
theorem Mj (s:ByteArray)(b k:Nat)(w:World)(hk:k<s.size)(hc:w.cell? ⟨b,0,none⟩=some (.string s)):Calls Tryz.prog 264 #[.int .i64 (k:Int),.pointer (some ⟨b,0,none⟩)] w λe w'=>e=.returned (.bool (j_ s[k]))/\w=w':=by
 go_enter Tryz.func264,Tryz.ntmps264
 go_wp2_with (go_at_call 160;refine(iQ _ _).mono ?_;rintro e w' ⟨rfl,rfl⟩)
 go_ret
 simp
theorem Mk (s:ByteArray)(b k:Nat)(w:World)(hk:k<s.size)(hc:w.cell? ⟨b,0,none⟩=some (.string s)):Calls Tryz.prog 265 #[.int .i64 (k:Int),.pointer (some ⟨b,0,none⟩)] w λe w'=>e=.returned (.bool (vK s[k]))/\w=w':=by
 have hb:vK s[k]=((s[k].toNat:Int) != 10):=by unfold vK;rw[Bool.eq_iff_iff];simp;omega
 rw[hb];clear hb;generalize hq:((s[k].toNat:Int) != 10)=q at *
 go_enter Tryz.func265,Tryz.ntmps265
 go_wp2
 go_ret
 simp
theorem Ml (s:ByteArray)(b k:Nat)(w:World)(hk:k<s.size)(hc:w.cell? ⟨b,0,none⟩=some (.string s)):Calls Tryz.prog 266 #[.int .i64 (k:Int),.pointer (some ⟨b,0,none⟩)] w λe w'=>e=.returned (.bool (wdB s[k]))/\w=w':=by
 go_enter Tryz.func266,Tryz.ntmps266
 go_wp2_with (go_at_call 252;refine(ik _ _).mono ?_;rintro e w' ⟨rfl,rfl⟩)
 go_ret
 simp
theorem Gl (s:ByteArray)(a b:Nat):(s.extract a b).data.toList=(s.data.toList.drop a).take (b-a):=by
 rw[ByteArray.data_extract,Array.toList_extract,List.extract_eq_take_drop]
theorem wF (s:ByteArray)(i j:Nat)(jj:Int)(hj:jj=(j:Int))(h1:i<=j)(h2:j<=s.size)(w:World) :
  (Instr.slice 9 (.string s) (some (.int .i64 (i:Int))) (some (.int .i64 jj)) none).run Tryz.prog w=.ok (.string (s.extract i j)) w:=by
 subst hj;have:=run_slice_string (P:=Tryz.prog) w 9 s .i64 .i64 (i:Int) (j:Int) Tryz.underlying9 (by omega) (by omega) (by omega);simpa using this
theorem Mm (s:ByteArray)(b p k:Nat)(w:World)(hp:p<=k)(hk:k<s.size)(hs:s.size<=281474976710656)(hc:w.cell? ⟨b,0,none⟩=some (.string s))(hd:w.cell? ⟨b+1,0,none⟩=some (.int .i64 (p:Int))) :
  Calls Tryz.prog 267 #[.int .i64 (k:Int),.pointer (some ⟨b,0,none⟩),.pointer (some ⟨b+1,0,none⟩)] w λe w'=>e=.returned (.bool (dJ ((s.data.toList.drop p).take (k+1-p))))/\w=w':=by
 have hsl:=wF s p (k+1) ((k:Int)+1) (by omega) (by omega) (by omega);go_enter Tryz.func267,Tryz.ntmps267
 go_wp2_with (go_at_call 237;refine(rT _ _).mono ?_;rintro e w' ⟨rfl,rfl⟩)
 go_ret
 exact⟨rfl,rfl⟩
def sD (c:UInt8)(b:Nat):Value:=
 if j_ c then .func (.func 264) #[] #[.pointer (some ⟨b,0,none⟩)]
 else if o_ c then .func (.func 265) #[] #[.pointer (some ⟨b,0,none⟩)]
 else if wdB c then .func (.func 266) #[] #[.pointer (some ⟨b,0,none⟩)]
 else .func (.func 267) #[] #[.pointer (some ⟨b,0,none⟩),.pointer (some ⟨b+1,0,none⟩)]
def Km (s:ByteArray)(p:Nat)(c:UInt8)(w:World)(e:Ending)(w':World):Prop:=
 e=.returned (sD c w.heap.size)/\w'=(w.alloc (.cells #[.string s] 9)).alloc (.cells #[.int .i64 (p:Int)] 3)
theorem ky (s:ByteArray)(p:Nat)(w:World)(hk:p<s.size):Calls Tryz.prog 235 #[.string s,.int .i64 (p:Int)] w (Km s p s[p] w):=by
 cases h1:j_ s[p]
 ·cases h2:o_ s[p]
  ·cases h3:wdB s[p]
   ·go_enter Tryz.func235,Tryz.ntmps235
    go_wp2_with (first|(go_at_call 160;refine(iQ _ _).mono ?_;rintro e w' ⟨rfl,rfl⟩) |(go_at_call 161;refine(gB _ _).mono ?_;rintro e w' ⟨rfl,rfl⟩) |(go_at_call 252;refine(ik _ _).mono ?_;rintro e w' ⟨rfl,rfl⟩))
    go_ret
    exact⟨by simp only[sD,h1,h2,h3,Bool.false_eq_true,if_false];rfl,rfl⟩
   ·go_enter Tryz.func235,Tryz.ntmps235
    go_wp2_with (first|(go_at_call 160;refine(iQ _ _).mono ?_;rintro e w' ⟨rfl,rfl⟩) |(go_at_call 161;refine(gB _ _).mono ?_;rintro e w' ⟨rfl,rfl⟩) |(go_at_call 252;refine(ik _ _).mono ?_;rintro e w' ⟨rfl,rfl⟩))
    go_ret
    exact⟨by simp only[sD,h1,h2,h3,Bool.false_eq_true,if_false,if_true];rfl,rfl⟩
  ·go_enter Tryz.func235,Tryz.ntmps235
   go_wp2_with (first|(go_at_call 160;refine(iQ _ _).mono ?_;rintro e w' ⟨rfl,rfl⟩) |(go_at_call 161;refine(gB _ _).mono ?_;rintro e w' ⟨rfl,rfl⟩) |(go_at_call 252;refine(ik _ _).mono ?_;rintro e w' ⟨rfl,rfl⟩))
   go_ret
   exact⟨by simp only[sD,h1,h2,Bool.false_eq_true,if_false,if_true];rfl,rfl⟩
 ·go_enter Tryz.func235,Tryz.ntmps235
  go_wp2_with (first|(go_at_call 160;refine(iQ _ _).mono ?_;rintro e w' ⟨rfl,rfl⟩) |(go_at_call 161;refine(gB _ _).mono ?_;rintro e w' ⟨rfl,rfl⟩) |(go_at_call 252;refine(ik _ _).mono ?_;rintro e w' ⟨rfl,rfl⟩))
  go_ret
  exact⟨by simp only[sD,h1,if_true];rfl,rfl⟩
def nD (q:UInt8->Bool)(l:List UInt8)(a k:Nat):Prop:=∀j (h:j<l.length),a<=j->j<k->q l[j]=true
theorem nD.nil (q:UInt8->Bool)(l:List UInt8)(a:Nat):nD q l a a:=λj _ h1 h2=>by omega
theorem nD.snoc {q:UInt8->Bool}{l:List UInt8}{a k:Nat}(h:nD q l a k)(hk:∀h:k<l.length,q l[k]=true):nD q l a (k+1):=λj hj h1 h2=>by
 by_cases e:j=k
 ·subst e;exact hk hj
 ·exact h j hj h1 (by omega)
theorem sF {q:UInt8->Bool}{l:List UInt8}{a k:Nat}(ha:nD q l a k)(h1:a<=k)(h2:k<=l.length)(hend:∀h:k<l.length,q l[k]=false):((l.drop a).takeWhile q).length=k-a:=by
 have e:l.drop a=(l.drop a).take (k-a)++l.drop k:=by
  conv=>lhs;rw[<- List.take_append_drop (k-a) (l.drop a)]
  rw[List.drop_drop,show a+(k-a)=k by omega]
 rw[e,List.takeWhile_append_of_pos]
 ·have h3:(l.drop k).takeWhile q=[]:=by
   by_cases hk:k<l.length
   ·rw[List.drop_eq_getElem_cons hk,List.takeWhile_cons,hend hk];rfl
   ·rw[List.drop_of_length_le (by omega)];rfl
  rw[h3];simp;omega
 ·intro x hx;obtain⟨i,hi,rfl⟩:=List.getElem_of_mem hx;simp at hi |-;exact ha (a+i) (by omega) (by omega) (by omega)
theorem nY (s:ByteArray)(p:Nat)(h:p<s.size):s.data.toList.getD p 0=s[p]:=by
 rw[List.getD_eq_getElem?_getD,List.getElem?_eq_getElem (by simpa using h)];rfl
def jk (l:List UInt8)(p:Nat):Nat:=
 p+1+(if j_ (l.getD p 0) then ((l.drop (p+1)).takeWhile j_).length else if o_ (l.getD p 0) then ((l.drop (p+1)).takeWhile vK).length else if wdB (l.getD p 0) then ((l.drop (p+1)).takeWhile wdB).length
  else if dJ ((l.drop p).take 2)=true/\p+1<l.length then 1 else 0)
def uP (l:List UInt8)(p:Nat)(w:World)(e:Ending)(w':World):Prop:=e=.returned (.int .i64 (jk l p:Int))/\Below w.heap.size w w'
theorem Gm (s:ByteArray)(p:Nat)(w:World)(hp:p<s.size)(hs:s.size<=281474976710656)(h1:j_ s[p]=true):Calls Tryz.prog 159 #[.string s,.int .i64 (p:Int)] w (uP s.data.toList p w):=by
 have hv:sD s[p] w.heap.size=.func (.func 264) #[] #[.pointer (some ⟨w.heap.size,0,none⟩)]:=by simp only[sD,h1,if_true]
 have HG:=hid (nY s p hp);have HK:=hid (show jk s.data.toList p=p+1+((s.data.toList.drop (p+1)).takeWhile j_).length by unfold jk;rw[HG.out];simp only[h1,if_true]);have HV:=hid hv;clear hv h1;go_enter Tryz.func159,Tryz.ntmps159
 go_wp2_with (go_at_call 235;refine(ky s p _ hp).mono ?_);rintro e w1 ⟨rfl,hw⟩;rw[HV.out];have hc:w1.cell? ⟨w.heap.size,0,none⟩=some (.string s):=by rw[hw];simp
 have hb:Below w.heap.size w w1:=by rw[hw];exact(aa w _).alloc (by simp) _
 have HC:=hid hc;clear hw hc;go_wp2
 go_loop [6] (λi=>∃k:Nat,p+1<=k/\k<=s.size/\i=.int .i64 (k:Int)/\nD j_ s.data.toList (p+1) k) (λi=>s.size-(intOf i).toNat)
 case atStart=>exact⟨p+1,Nat.le_refl _,by omega,by go_num,nD.nil _ _ _⟩
 case round=>
  obtain⟨k,hk1,hk2,rfl,ha⟩:=hrel;by_cases hlt:k<s.size
  ·have hlz:(k:Int)<(s.size:Int):=by omega
   cases hq:j_ s[k]
   ·have HQ:=hid hq;go_wp2_with (go_at_call 264;refine(Mj s _ k _ hlt HC.out).mono ?_;rintro e w' ⟨rfl,rfl⟩)
    go_ret
    exact⟨aP (by rw[HK.out,sF ha hk1 (by simpa using hk2) (λ_=>by simpa [ByteArray.getElem_eq_getElem_data]using HQ.out)];omega),hb⟩
   ·have HQ:=hid hq;go_wp2_with (go_at_call 264;refine(Mj s _ k _ hlt HC.out).mono ?_;rintro e w' ⟨rfl,rfl⟩)
    go_round
    case rel=>exact⟨k+1,by omega,by omega,by go_num,ha.snoc (λ_=>by simpa [ByteArray.getElem_eq_getElem_data]using HQ.out)⟩
    case measure=>simp[intOf];omega
  ·have hlz:¬(k:Int)<(s.size:Int):=by omega
   go_wp2
   go_ret
   exact⟨aP (by rw[HK.out,sF ha hk1 (by simpa using hk2) (λh=>absurd h (by simpa using hlt))];omega),hb⟩
theorem Gn (s:ByteArray)(p:Nat)(w:World)(hp:p<s.size)(hs:s.size<=281474976710656)(h1:j_ s[p]=false)(h2:o_ s[p]=true):Calls Tryz.prog 159 #[.string s,.int .i64 (p:Int)] w (uP s.data.toList p w):=by
 have hv:sD s[p] w.heap.size=.func (.func 265) #[] #[.pointer (some ⟨w.heap.size,0,none⟩)]:=by simp only[sD,h1,h2,Bool.false_eq_true,if_false,if_true]
 have HG:=hid (nY s p hp);have HK:=hid (show jk s.data.toList p=p+1+((s.data.toList.drop (p+1)).takeWhile vK).length by unfold jk;rw[HG.out];simp only[h1,h2,Bool.false_eq_true,if_false,if_true]);have HV:=hid hv;clear hv h1 h2;go_enter Tryz.func159,Tryz.ntmps159
 go_wp2_with (go_at_call 235;refine(ky s p _ hp).mono ?_);rintro e w1 ⟨rfl,hw⟩;rw[HV.out];have hc:w1.cell? ⟨w.heap.size,0,none⟩=some (.string s):=by rw[hw];simp
 have hb:Below w.heap.size w w1:=by rw[hw];exact(aa w _).alloc (by simp) _
 have HC:=hid hc;clear hw hc;go_wp2
 go_loop [6] (λi=>∃k:Nat,p+1<=k/\k<=s.size/\i=.int .i64 (k:Int)/\nD vK s.data.toList (p+1) k) (λi=>s.size-(intOf i).toNat)
 case atStart=>exact⟨p+1,Nat.le_refl _,by omega,by go_num,nD.nil _ _ _⟩
 case round=>
  obtain⟨k,hk1,hk2,rfl,ha⟩:=hrel;by_cases hlt:k<s.size
  ·have hlz:(k:Int)<(s.size:Int):=by omega
   cases hq:vK s[k]
   ·have HQ:=hid hq;go_wp2_with (go_at_call 265;refine(Mk s _ k _ hlt HC.out).mono ?_;rintro e w' ⟨rfl,rfl⟩)
    go_ret
    exact⟨aP (by rw[HK.out,sF ha hk1 (by simpa using hk2) (λ_=>by simpa [ByteArray.getElem_eq_getElem_data]using HQ.out)];omega),hb⟩
   ·have HQ:=hid hq;go_wp2_with (go_at_call 265;refine(Mk s _ k _ hlt HC.out).mono ?_;rintro e w' ⟨rfl,rfl⟩)
    go_round
    case rel=>exact⟨k+1,by omega,by omega,by go_num,ha.snoc (λ_=>by simpa [ByteArray.getElem_eq_getElem_data]using HQ.out)⟩
    case measure=>simp[intOf];omega
  ·have hlz:¬(k:Int)<(s.size:Int):=by omega
   go_wp2
   go_ret
   exact⟨aP (by rw[HK.out,sF ha hk1 (by simpa using hk2) (λh=>absurd h (by simpa using hlt))];omega),hb⟩
theorem Gp (s:ByteArray)(p:Nat)(w:World)(hp:p<s.size)(hs:s.size<=281474976710656)(h1:j_ s[p]=false)(h2:o_ s[p]=false)(h3:wdB s[p]=true):Calls Tryz.prog 159 #[.string s,.int .i64 (p:Int)] w (uP s.data.toList p w):=by
 have hv:sD s[p] w.heap.size=.func (.func 266) #[] #[.pointer (some ⟨w.heap.size,0,none⟩)]:=by simp only[sD,h1,h2,h3,Bool.false_eq_true,if_false,if_true]
 have HG:=hid (nY s p hp);have HK:=hid (show jk s.data.toList p=p+1+((s.data.toList.drop (p+1)).takeWhile wdB).length by unfold jk;rw[HG.out];simp only[h1,h2,h3,Bool.false_eq_true,if_false,if_true]);have HV:=hid hv;clear hv h1 h2 h3;go_enter Tryz.func159,Tryz.ntmps159
 go_wp2_with (go_at_call 235;refine(ky s p _ hp).mono ?_);rintro e w1 ⟨rfl,hw⟩;rw[HV.out];have hc:w1.cell? ⟨w.heap.size,0,none⟩=some (.string s):=by rw[hw];simp
 have hb:Below w.heap.size w w1:=by rw[hw];exact(aa w _).alloc (by simp) _
 have HC:=hid hc;clear hw hc;go_wp2
 go_loop [6] (λi=>∃k:Nat,p+1<=k/\k<=s.size/\i=.int .i64 (k:Int)/\nD wdB s.data.toList (p+1) k) (λi=>s.size-(intOf i).toNat)
 case atStart=>exact⟨p+1,Nat.le_refl _,by omega,by go_num,nD.nil _ _ _⟩
 case round=>
  obtain⟨k,hk1,hk2,rfl,ha⟩:=hrel;by_cases hlt:k<s.size
  ·have hlz:(k:Int)<(s.size:Int):=by omega
   cases hq:wdB s[k]
   ·have HQ:=hid hq;go_wp2_with (go_at_call 266;refine(Ml s _ k _ hlt HC.out).mono ?_;rintro e w' ⟨rfl,rfl⟩)
    go_ret
    exact⟨aP (by rw[HK.out,sF ha hk1 (by simpa using hk2) (λ_=>by simpa [ByteArray.getElem_eq_getElem_data]using HQ.out)];omega),hb⟩
   ·have HQ:=hid hq;go_wp2_with (go_at_call 266;refine(Ml s _ k _ hlt HC.out).mono ?_;rintro e w' ⟨rfl,rfl⟩)
    go_round
    case rel=>exact⟨k+1,by omega,by omega,by go_num,ha.snoc (λ_=>by simpa [ByteArray.getElem_eq_getElem_data]using HQ.out)⟩
    case measure=>simp[intOf];omega
  ·have hlz:¬(k:Int)<(s.size:Int):=by omega
   go_wp2
   go_ret
   exact⟨aP (by rw[HK.out,sF ha hk1 (by simpa using hk2) (λh=>absurd h (by simpa using hlt))];omega),hb⟩
theorem DN {l:List UInt8}(h:dJ l=true):l.length=1\/l.length=2:=by
 simp only[dJ,Bool.or_eq_true,beq_iff_eq]at h;rcases h with((((((((((((((((((((((h |h) |h) |h) |h) |h) |h) |h) |h) |h) |h) |h) |h) |h) |h) |h) |h) |h) |h) |h) |h) |h) |h) |h<;>subst h<;>simp
def Ct (l:List UInt8)(p k:Nat):Prop:=k=p+1\/(k=p+2/\dJ ((l.drop p).take 2)=true/\p+1<l.length)
theorem Mo {l:List UInt8}{p:Nat}(h1:j_ (l.getD p 0)=false)(h2:o_ (l.getD p 0)=false)(h3:wdB (l.getD p 0)=false):jk l p=p+1+(if dJ ((l.drop p).take 2)=true/\p+1<l.length then 1 else 0):=by
 unfold jk;simp only[h1,h2,h3,Bool.false_eq_true,if_false]
theorem Gq {l:List UInt8}{p k:Nat}(hr:Ct l p k)(hE:jk l p=p+1+(if dJ ((l.drop p).take 2)=true/\p+1<l.length then 1 else 0))(he:k<l.length->dJ ((l.drop p).take (k+1-p))=false):k=jk l p:=by
 rw[hE];rcases hr with rfl |⟨rfl,h,h'⟩
 ·by_cases hl:p+1<l.length
  ·have:=he hl;rw[show p+1+1-p=2 by omega]at this;rw[if_neg (by rw[this];simp)]
  ·rw[if_neg (λh=>hl h.2)]
 ·rw[if_pos ⟨h,h'⟩]
theorem Kn {l:List UInt8}{p k:Nat}(hr:Ct l p k)(hk:k<l.length)(he:dJ ((l.drop p).take (k+1-p))=true):Ct l p (k+1):=by
 rcases hr with rfl |⟨rfl,h,h'⟩
 ·rw[show p+1+1-p=2 by omega]at he;exact .inr ⟨rfl,he,hk⟩
 ·exfalso;have:=DN he;simp at this;omega
theorem Gr (s:ByteArray)(p:Nat)(w:World)(hp:p<s.size)(hs:s.size<=281474976710656)(h1:j_ s[p]=false)(h2:o_ s[p]=false)(h3:wdB s[p]=false):Calls Tryz.prog 159 #[.string s,.int .i64 (p:Int)] w (uP s.data.toList p w):=by
 have hv:sD s[p] w.heap.size=.func (.func 267) #[] #[.pointer (some ⟨w.heap.size,0,none⟩),.pointer (some ⟨w.heap.size+1,0,none⟩)]:=by simp only[sD,h1,h2,h3,Bool.false_eq_true,if_false]
 have hg:=nY s p hp;have hl:s.data.toList.length=s.size:=by simp
 have HE:=hid (Mo (l:=s.data.toList) (p:=p) (by rw[hg];exact h1) (by rw[hg];exact h2) (by rw[hg];exact h3));have HL:=hid hl;have HV:=hid hv;clear hv h1 h2 h3 hg hl;go_enter Tryz.func159,Tryz.ntmps159
 go_wp2_with (go_at_call 235;refine(ky s p _ hp).mono ?_);rintro e w1 ⟨rfl,hw⟩;rw[HV.out];have hc:w1.cell? ⟨w.heap.size,0,none⟩=some (.string s):=by rw[hw];simp
 have hd:w1.cell? ⟨w.heap.size+1,0,none⟩=some (.int .i64 (p:Int)):=by rw[hw];simp
 have hb:Below w.heap.size w w1:=by rw[hw];exact(aa w _).alloc (by simp) _
 have HC:=hid hc;have HD:=hid hd;clear hw hc hd;go_wp2
 go_loop [6] (λi=>∃k:Nat,p+1<=k/\k<=s.size/\i=.int .i64 (k:Int)/\Ct s.data.toList p k) (λi=>s.size-(intOf i).toNat)
 case atStart=>exact⟨p+1,Nat.le_refl _,by omega,by go_num,.inl rfl⟩
 case round=>
  obtain⟨k,hk1,hk2,rfl,ha⟩:=hrel;by_cases hlt:k<s.size
  ·have hlz:(k:Int)<(s.size:Int):=by omega
   cases hq:dJ ((s.data.toList.drop p).take (k+1-p))
   ·have HQ:=hid hq;go_wp2_with (go_at_call 267;refine(Mm s _ p k _ (by omega) hlt hs HC.out HD.out).mono ?_;rintro e w' ⟨rfl,rfl⟩)
    go_ret
    exact⟨aP (by rw[<- Gq ha HE.out (λ_=>HQ.out)]),hb⟩
   ·have HQ:=hid hq;go_wp2_with (go_at_call 267;refine(Mm s _ p k _ (by omega) hlt hs HC.out HD.out).mono ?_;rintro e w' ⟨rfl,rfl⟩)
    go_round
    case rel=>exact⟨k+1,by omega,by omega,by go_num,Kn ha (by rw[HL.out];exact hlt) HQ.out⟩
    case measure=>simp[intOf];omega
  ·have hlz:¬(k:Int)<(s.size:Int):=by omega
   go_wp2
   go_ret
   exact⟨aP (by rw[<- Gq ha HE.out (λh=>absurd h (by rw[HL.out];exact hlt))]),hb⟩
theorem DR (s:ByteArray)(p:Nat)(w:World)(hp:p<s.size)(hs:s.size<=281474976710656):Calls Tryz.prog 159 #[.string s,.int .i64 (p:Int)] w (uP s.data.toList p w):=by
 cases h1:j_ s[p]
 ·cases h2:o_ s[p]
  ·cases h3:wdB s[p]
   ·exact Gr s p w hp hs h1 h2 h3
   ·exact Gp s p w hp hs h1 h2 h3
  ·exact Gn s p w hp hs h1 h2
 ·exact Gm s p w hp hs h1
theorem Gs {q:UInt8->Bool}(l:List UInt8):(l.takeWhile q).length<=l.length:=by
 exact(List.takeWhile_prefix q).length_le
theorem fD {l:List UInt8}{p:Nat}(hp:p<l.length):p+1<=jk l p/\jk l p<=l.length:=by
 refine⟨by unfold jk;omega,?_⟩;unfold jk;have a:=Gs (q:=j_) (l.drop (p+1));have b:=Gs (q:=vK) (l.drop (p+1));have c:=Gs (q:=wdB) (l.drop (p+1));simp only[List.length_drop]at a b c;split
 ·omega
 ·split
  ·omega
  ·split
   ·omega
   ·split<;>omega
structure Tok where
 k:Nat
 n:Int
 p:Nat
 s:List UInt8
deriving DecidableEq,Repr
def bs (l:List UInt8):ByteArray:=⟨l.toArray⟩
theorem qQ (l:List UInt8):(bs l).data.toList=l:=by simp[bs]
theorem Qj (s:ByteArray):bs s.data.toList=s:=by cases s;simp[bs]
def Ag (t:Tok):List Value:=[.int .i64 (t.k:Int),.int .i64 t.n,.int .i64 (t.p:Int),.string (bs t.s)]
def AZ (ts:List Tok):List Value:=ts.flatMap Ag
theorem zw (t:Tok)(ts:List Tok):AZ (t :: ts)=Ag t++AZ ts:=rfl
theorem Cu (a b:List Tok):AZ (a++b)=AZ a++AZ b:=by unfold AZ;rw[List.flatMap_append]
theorem Cv:∀(ts:List Tok) (j:Nat) (hj:j<ts.length) (i:Nat),i<4->(AZ ts)[j*4+i]?=(Ag ts[j])[i]?
 |t :: ts,0,_,i,hi=>by
  rw[zw,List.getElem?_append_left (by simp[Ag];omega)];simp
 |t :: ts,j+1,hj,i,hi=>by
  rw[zw,List.getElem?_append_right (by simp[Ag];omega)];have ih:=Cv ts j (by simpa using hj) i hi;rw[show(j+1)*4+i-(Ag t).length=j*4+i by simp[Ag];omega,ih];rfl
def lW (w:World)(A:Option Addr)(ts:List Tok):Prop:=
 0<ts.length->∃b off,A=some ⟨b,off,none⟩/\b<w.heap.size/\∀j (hj:j<ts.length) i,i<4->w.cell? ⟨b,off+j*4+i,none⟩=(Ag ts[j])[i]?
theorem lW.below {w w':World}{A:Option Addr}{ts:List Tok}(h:lW w A ts)(hb:Below w.heap.size w w'):lW w' A ts:=λh0=>by
 obtain⟨b,off,e,hl,hc⟩:=h h0;exact⟨b,off,e,Nat.lt_of_lt_of_le hl hb.size,λj hj i hi=>(hb.cell (p:=⟨b,off+j*4+i,none⟩) hl).trans (hc j hj i hi)⟩
theorem own_below {w w':World}{base e size n:Nat}{v:Value}{xs:List Value}(h:w.ownsRow base e size v n xs)(hb:Below w.heap.size w w'):w'.ownsRow base e size v n xs:=
 h.kept (row:=none) ⟨hb.os,hb.tape,hb.output,hb.size,λi hi _=>hb.block i hi⟩ (by cases h:v.ownBlock<;>simp)
theorem Gt {w:World}{base:Nat}{v:Value}{ts:List Tok}(h:w.ownsRow base 105 4 v ts.length (AZ ts)):∃A c,v=.slice A ts.length c/\lW w A ts/\∀a,A=some a->base<=a.block:=by
 rcases h.2 with⟨rfl,e⟩ |⟨g,cap,cur,rfl,hb,hg,hn,_,_,ht⟩
 ·exact⟨none,0,by rw[e],λh0=>by omega,λa e=>by cases e⟩
 ·refine⟨_,cap,rfl,λh0=>⟨g,0,rfl,(Array.getElem?_eq_some_iff.1 hg).1,λj hj i hi =>?_⟩,λa e=>by injection e with e;subst e;exact hb⟩;have h1:=Cv ts j hj i hi;rw[<- ht,List.getElem?_take,if_pos (by omega)]at h1;rw[Nat.zero_add,cell_of_row w g (j*4+i) cur 105 (0,0) hg,<- h1];simp
inductive xU where
 |ok (l:List Tok)
 |bad (p:Nat)
deriving DecidableEq
def xU.pre (a:List Tok):xU->xU
 | .ok l =>.ok (a++l)
 | .bad p =>.bad p
theorem xU.pre_nil (r:xU):r.pre []=r:=by cases r<;>rfl
theorem xU.pre_pre (a b:List Tok)(r:xU):(r.pre b).pre a=r.pre (a++b):=by cases r<;>simp[xU.pre]
def qc (n:Nat):Tok:=⟨5,0,n,[]⟩
def sub (l:List UInt8)(p q:Nat):List UInt8:=(l.drop p).take (q-p)
def tH (l:List UInt8)(p q:Nat):Tok:=⟨dh (sub l p q),jT (sub l p q),p,sub l p q⟩
def nZ:Nat->List UInt8->Nat->xU
 |0,l,_ =>.ok [qc l.length]
 |f+1,l,p=>
  if p<l.length then
   if j_ (l.getD p 0) || o_ (l.getD p 0) then nZ f l (jk l p)
   else if dh (sub l p (jk l p))=0 then .bad p
   else (nZ f l (jk l p)).pre [tH l p (jk l p)]
  else .ok [qc l.length]
theorem wG:∀(f:Nat) (l:List UInt8) (p g:Nat),l.length-p<=f->l.length-p<=g->nZ f l p=nZ g l p
 |0,l,p,0,_,_=>rfl
 |0,l,p,g+1,h,_=>by simp only[nZ];rw[if_neg (by omega)]
 |f+1,l,p,0,_,h=>by simp only[nZ];rw[if_neg (by omega)]
 |f+1,l,p,g+1,h1,h2=>by
  simp only[nZ];by_cases hp:p<l.length
  ·have:=fD hp;rw[if_pos hp,if_pos hp,wG f l (jk l p) g (by omega) (by omega)]
  ·rw[if_neg hp,if_neg hp]
def iF (l:List UInt8)(p:Nat):xU:=nZ (l.length-p) l p
theorem zx {l:List UInt8}{p:Nat}(h:¬p<l.length):iF l p=.ok [qc l.length]:=by
 unfold iF;rw[show l.length-p=0 by omega];rfl
theorem oO {l:List UInt8}{p:Nat}(h:p<l.length):iF l p=if j_ (l.getD p 0) || o_ (l.getD p 0) then iF l (jk l p)
   else if dh (sub l p (jk l p))=0 then .bad p
   else (iF l (jk l p)).pre [tH l p (jk l p)]:=by
 have hb:=fD h;unfold iF;obtain⟨m,hm⟩:∃m,l.length-p=m+1:=⟨l.length-p-1,by omega⟩;rw[hm];simp only[nZ];rw[if_pos h,wG m l (jk l p) (l.length-jk l p) (by omega) (by omega)]
theorem NT:(Tryz.prog.info? 105).map (λi=>(i.zero,i.size,i.bytes))=some (some (.agg #[.int .i64 0,.int .i64 0,.int .i64 0,.string ⟨#[]⟩]),4,40):=by kernel_rfl
def xV (l:List UInt8)(w:World)(e:Ending)(w':World):Prop:=
 Below w.heap.size w w'/\match iF l 0 with
  | .ok ts=>∃A c,e=.returned (.tuple #[.slice A ts.length c,.int .i64 0,.int .i64 0])/\lW w' A ts/\(∀a,A=some a->w.heap.size<=a.block)/\w'.ownsRow w.heap.size 105 4 (.slice A ts.length c) ts.length (AZ ts)
  | .bad p=>e=.returned (.tuple #[.slice none 0 0,.int .i64 (p:Int),.int .i64 2])
theorem Ko {l:List UInt8}{w w':World}{p:Nat}(hb:Below w.heap.size w w')(h:iF l 0=.bad p):xV l w (.returned (.tuple #[.slice none 0 0,.int .i64 (p:Int),.int .i64 2])) w':=by
 refine⟨hb,?_⟩;rw[h]
theorem NU {l:List UInt8}{w w':World}{ts:List Tok}{v:Value}(hb:Below w.heap.size w w')(h:iF l 0=.ok ts)(ho:w'.ownsRow w.heap.size 105 4 v ts.length (AZ ts)):xV l w (.returned (.tuple #[v,.int .i64 0,.int .i64 0])) w':=by
 obtain⟨A,c,rfl,hT,hA⟩:=Gt ho;refine⟨hb,?_⟩;rw[h];exact⟨A,c,rfl,hT,hA,ho⟩
def RQ (q:Nat)(w:World)(e:Ending)(w':World):Prop:=e=.returned (.int .i64 (q:Int))/\Below w.heap.size w w'
theorem Kq (s:ByteArray)(p q:Nat):(s.extract p q).data.toList=sub s.data.toList p q:=Gl s p q
def n_ (l:List UInt8)(p:Nat)(acc:List Tok):Prop:=iF l 0=(iF l p).pre acc/\acc.length<=p
theorem wH {l:List UInt8}{p:Nat}{acc:List Tok}(h:n_ l p acc)(hp:p<l.length)(hb:(j_ (l.getD p 0) || o_ (l.getD p 0))=true):n_ l (jk l p) acc:=by
 obtain⟨h1,h2⟩:=h;have:=fD hp;refine⟨?_,by omega⟩;rw[h1,oO hp,if_pos hb]
theorem Kr {l:List UInt8}{p:Nat}{acc:List Tok}(h:n_ l p acc)(hp:p<l.length)(hb:(j_ (l.getD p 0) || o_ (l.getD p 0))=false)(ht:dh (sub l p (jk l p))=0):iF l 0=.bad p:=by
 rw[h.1,oO hp,hb,ht];rfl
theorem Kt {l:List UInt8}{p:Nat}{acc:List Tok}(h:n_ l p acc)(hp:p<l.length)(hb:(j_ (l.getD p 0) || o_ (l.getD p 0))=false)(ht:dh (sub l p (jk l p))≠0):n_ l (jk l p) (acc++[tH l p (jk l p)]):=by
 have hB:=fD hp;refine⟨?_,by have:=h.2;simp;omega⟩;rw[h.1,oO hp,hb,if_neg (by simp),if_neg ht,xU.pre_pre]
theorem Ku {l:List UInt8}{p:Nat}{acc:List Tok}(h:n_ l p acc)(hp:¬p<l.length):iF l 0=.ok (acc++[qc l.length]):=by
 rw[h.1,zx hp];rfl
theorem Kv (s:ByteArray)(w:World)(hE:pO w)(hs:s.size<=20000):Calls Tryz.prog 99 #[.string s] w (xV s.data.toList w):=by
 obtain⟨i0,hi,hz0,hz1,hz2⟩:=info_parts NT;have HE:=hid hE;have HL:=hid (show s.data.toList.length=s.size by simp);clear hE;have hsz:¬(20000:Int)<(s.size:Int):=by omega
 go_enter Tryz.func99,Tryz.ntmps99
 go_wp2_with fail
 go_loopw [5,6] (λv i wr=>∃(p:Nat) (acc:List Tok),p<=s.size/\i=.int .i64 (p:Int)/\wr.ownsRow w.heap.size 105 4 v acc.length (AZ acc)/\Below w.heap.size w wr/\n_ s.data.toList p acc) (λ_ i _=>s.size-(intOf i).toNat)
 case atStart=>exact⟨0,[],Nat.zero_le _,rfl,World.ownsRow_nil _ _ _ _,Below.refl _ _,(xU.pre_nil _).symm,by simp⟩
 case round=>
  obtain⟨p,acc,hp,rfl,hown,hb,hI⟩:=hrel;have hEr:=HE.out.below hb;by_cases hlt:p<s.size
  ·have hlz:(p:Int)<(s.size:Int):=by omega
   have HG:=hid (nY s p hlt);have hpl:p<s.data.toList.length:=by rw[HL.out];exact hlt
   obtain⟨q,hq⟩:∃q,q=jk s.data.toList p:=⟨_,rfl⟩;have hq1:p+1<=q:=by rw[hq];exact(fD hpl).1
   have hq2:q<=s.size:=by rw[hq,<- HL.out];exact(fD hpl).2
   have hP:∀w',Calls Tryz.prog 159 #[.string s,.int .i64 (p:Int)] w' (RQ q w'):=λw'=>by rw[hq];exact DR s p w' hlt (by omega)
   have HP:=hid hP;have HQ:=hid hq;clear hP hq hpl;cases h1:j_ s[p]
   ·cases h2:o_ s[p]
    ·obtain⟨x,hx⟩:∃x,x=s.extract p q:=⟨_,rfl⟩;have hsl:∀w',(Instr.slice 9 (.string s) (some (.int .i64 (p:Int))) (some (.int .i64 (q:Int))) none).run Tryz.prog w' = .ok (.string x) w':=by
      rw[hx];exact wF s p q (q:Int) rfl (by omega) hq2
     have HX:=hid (show x.data.toList=sub s.data.toList p q by rw[hx];exact Kq s p q);have hxs:x.size<=281474976710656:=by
      have:x.data.toList.length<=s.size:=by rw[HX.out];unfold sub;simp;omega
      simp at this;omega
     clear hx;go_wp2_with (first|(go_at_call 159;refine(HP.out _).mono ?_;rintro e w1 ⟨rfl,hb1⟩) |(go_at_call 160;refine(iQ _ _).mono ?_;rintro e w' ⟨rfl,rfl⟩) |(go_at_call 161;refine(gB _ _).mono ?_;rintro e w' ⟨rfl,rfl⟩) |(go_at_call 162;refine(yI x p _ (hEr.below hb1) hxs).mono ?_));rintro e w2 ⟨ht,hb2⟩;rcases ht with⟨hk,rfl⟩ |⟨hk,rfl⟩
     ·have HK:=hid hk;clear hk;go_wp2;refine bodyPost_ret (v :=.tuple #[.slice none 0 0,.int .i64 (p:Int),.int .i64 2]) (by simp[results,Tryz.results99,go_sem]) rfl (Ko ((bt (bt hb hb1) hb2).alloc (by have:=(bt (bt hb hb1) hb2).size;omega) _) (Kr hI (by rw[HL.out];exact hlt) (by rw[HG.out,h1,h2];rfl) ?_));rw[<- HQ.out,<- HX.out];exact HK.out
     ·have HK:=hid hk;clear hk;have hown2:=own_below (own_below hown hb1) hb2;have hbb:=bt (bt hb hb1) hb2;have hal:acc.length<=20000:=by have:=hI.2;omega
      have HT:=hid (show Ag (tH s.data.toList p q)=[.int .i64 (dh x.data.toList:Int),.int .i64 (jT x.data.toList),.int .i64 (p:Int),.string x]by unfold Ag tH;rw[<- HX.out,Qj]);have hI2:n_ s.data.toList q (acc++[tH s.data.toList p q]):=by
       rw[HQ.out];exact Kt hI (by rw[HL.out];exact hlt) (by rw[HG.out,h1,h2];rfl) (by rw[<- HQ.out,<- HX.out];exact HK.out)
      clear HP HX hsl hb1 hb2 hown hb hI hEr;generalize dh x.data.toList=kk at *
      generalize jT x.data.toList=nn at *
      go_wp2_with (first
       |(at_builtin;refine wpList_append_own _ rfl _ _ 60 rfl w.heap.size 105 i0 (.agg #[.int .i64 0,.int .i64 0,.int .i64 0,.string ⟨#[]⟩]) 4 40 Tryz.underlying60 hi hz0 hz1 hz2 rfl (by decide) _ _ _ rfl ((hown2.alloc _).alloc _) ⟨w2.heap.size+1,0,none⟩ 1 1 [.int .i64 (kk:Int),.int .i64 nn,.int .i64 (p:Int),.string x] rfl rfl ?c1 ?c2 ?c3 ?c4 ?c5 ?_))
      case c1=>
       intro j v hj
       match j,hj with
       |0,hj=>simp at hj;subst hj;simp[Addr.add]
       |1,hj=>simp at hj;subst hj;simp[Addr.add]
       |2,hj=>simp at hj;subst hj;simp[Addr.add]
       |3,hj=>simp at hj;subst hj;simp[Addr.add]
      case c2=>intro v hv;simp at hv;rcases hv with rfl |rfl |rfl |rfl<;>rfl
      case c3=>unfold maxLen;omega
      case c4=>omega
      case c5=>have:=hbb.size;simp;omega
      intro v' w4 hown4 hgrow4 _;have hb4:Below w.heap.size w w4:=((hbb.alloc hbb.size _).alloc (by have:=hbb.size;simp;omega) _).grown hgrow4 (by have:=hbb.size;simp;omega) (λq hq=>(hown2.lt q hq).1);have hown5:w4.ownsRow w.heap.size 105 4 v' (acc++[tH s.data.toList p q]).length (AZ (acc++[tH s.data.toList p q])):=by
       rw[Cu,List.length_append,show AZ [tH s.data.toList p q]=Ag (tH s.data.toList p q)from rfl,HT.out];exact hown4
      clear hown4 hgrow4 hown2 hbb HT;go_wp2
      go_roundw
      case rel=>exact⟨q,_,hq2,rfl,hown5,hb4,hI2⟩
      case measure=>simp[intOf];omega
    ·go_wp2_with (first|(go_at_call 159;refine(HP.out _).mono ?_;rintro e w1 ⟨rfl,hb1⟩) |(go_at_call 160;refine(iQ _ _).mono ?_;rintro e w' ⟨rfl,rfl⟩) |(go_at_call 161;refine(gB _ _).mono ?_;rintro e w' ⟨rfl,rfl⟩))
     go_roundw
     case rel=>exact⟨q,acc,hq2,rfl,own_below hown hb1,bt hb hb1,by rw[HQ.out];exact wH hI (by rw[HL.out];exact hlt) (by rw[HG.out,h2];simp)⟩
     case measure=>simp[intOf];omega
   ·go_wp2_with (first|(go_at_call 159;refine(HP.out _).mono ?_;rintro e w1 ⟨rfl,hb1⟩) |(go_at_call 160;refine(iQ _ _).mono ?_;rintro e w' ⟨rfl,rfl⟩) |(go_at_call 161;refine(gB _ _).mono ?_;rintro e w' ⟨rfl,rfl⟩))
    go_roundw
    case rel=>exact⟨q,acc,hq2,rfl,own_below hown hb1,bt hb hb1,by rw[HQ.out];exact wH hI (by rw[HL.out];exact hlt) (by rw[HG.out,h1];simp)⟩
    case measure=>simp[intOf];omega
  ·have hlz:¬(p:Int)<(s.size:Int):=by omega
   have hR:=Ku hI (by rw[HL.out];exact hlt);have hal:acc.length<=20000:=by have:=hI.2;omega
   have HT:=hid (show Ag (qc s.data.toList.length)=[.int .i64 5,.int .i64 0,.int .i64 (s.size:Int),.string ⟨#[]⟩]by unfold Ag qc;rw[HL.out];rfl);have HR:=hid hR;clear hR hI hEr;go_wp2_with (first
    |(at_builtin;refine wpList_append_own _ rfl _ _ 60 rfl w.heap.size 105 i0 (.agg #[.int .i64 0,.int .i64 0,.int .i64 0,.string ⟨#[]⟩]) 4 40 Tryz.underlying60 hi hz0 hz1 hz2 rfl (by decide) _ _ _ rfl (hown.alloc _) ⟨wr.heap.size,0,none⟩ 1 1 [.int .i64 5,.int .i64 0,.int .i64 (s.size:Int),.string ⟨#[]⟩] rfl rfl ?d1 ?d2 ?d3 ?d4 ?d5 ?_))
   case d2=>exact⟨rfl,rfl,rfl,rfl⟩
   case d3=>unfold maxLen;omega
   case d4=>omega
   case d5=>have:=hb.size;simp;omega
   intro v' w4 hown4 hgrow4 _;have hb4:Below w.heap.size w w4:=(hb.alloc hb.size _).grown hgrow4 (by have:=hb.size;simp;omega) (λq hq=>(hown.lt q hq).1);have hown5:w4.ownsRow w.heap.size 105 4 v' (acc++[qc s.data.toList.length]).length (AZ (acc++[qc s.data.toList.length])):=by
    rw[Cu,List.length_append,show AZ [qc s.data.toList.length]=Ag (qc s.data.toList.length)from rfl,HT.out];exact hown4
   clear hown4 hgrow4 hown hb HT;go_wp2;exact bodyPost_ret (v :=.tuple #[v',.int .i64 0,.int .i64 0]) (by simp[results,Tryz.results99,go_sem]) rfl (NU hb4 HR.out hown5)
end Tk
section
open Tr (Bx aa bt au aP ax aA)
def vL (t:Tk.Tok):Tok:=⟨t.k,t.n,t.p,t.s⟩
theorem Kw (l:List UInt8):Tk.dh l<=4:=by
 unfold Tk.dh;split
 ·exact Nat.le_refl _
 split
 ·decide
 split
 ·decide
 split
 ·decide
 ·decide
theorem sG:∀(f:Nat) (l:List UInt8) (p:Nat) (ts:List Tk.Tok),Tk.nZ f l p=.ok ts->∃ms:List Tk.Tok,ts=ms++[Tk.qc l.length]/\ms.length<=f/\∀t ∈ ms,t.k=Tk.dh t.s/\t.k≠0/\t.s≠[]
 |0,l,p,ts,h=>by
  simp only[Tk.nZ]at h;injection h with h
  exact⟨[],by rw[<- h];rfl,Nat.le_refl _,λt ht=>by cases ht⟩
 |f+1,l,p,ts,h=>by
  simp only[Tk.nZ]at h;split at h
  case isFalse=>
   injection h with h
   exact⟨[],by rw[<- h];rfl,Nat.zero_le _,λt ht=>by cases ht⟩
  case isTrue hp=>
   split at h
   ·obtain⟨ms,a,b,c⟩:=sG f l _ ts h;exact⟨ms,a,Nat.le_succ_of_le b,c⟩
   split at h
   ·cases h
   ·rename_i h0;cases h1:Tk.nZ f l (Tk.jk l p) with
    |bad q=>rw[h1]at h;cases h
    |ok us=>
     rw[h1]at h;obtain⟨ms,a,b,c⟩:=sG f l _ us h1;simp only[Tk.xU.pre]at h;injection h with h
     refine⟨Tk.tH l p (Tk.jk l p) :: ms,by rw[<- h,a];rfl,by rw[List.length_cons];omega,λt ht =>?_⟩;rcases List.mem_cons.1 ht with rfl |ht
     ·refine⟨rfl,h0,λe =>?_⟩;have e:Tk.sub l p (Tk.jk l p)=[]:=e;have e2:=congrArg List.length e;have hb:=Tk.fD hp;simp[Tk.sub]at e2;omega
     ·exact c t ht
theorem zy {l:List UInt8}{ts:List Tk.Tok}(h:Tk.iF l 0=.ok ts):∃ms:List Tk.Tok,ts=ms++[Tk.qc l.length]/\ms.length<=l.length/\∀t ∈ ms,t.k=Tk.dh t.s/\t.k≠0/\t.s≠[]:=by
 obtain⟨ms,a,b,c⟩:=sG (l.length-0) l 0 ts h;exact⟨ms,a,by omega,c⟩
theorem Gu {ms:List Tk.Tok}{n:Nat}:(ms++[Tk.qc n]).map vL=ms.map vL++[⟨5,0,n,[]⟩]:=by rw[List.map_append];rfl
theorem Gv {l:List UInt8}{ts:List Tk.Tok}(h:Tk.iF l 0=.ok ts):pV (ts.map vL):=by
 obtain⟨ms,rfl,hl,hm⟩:=zy h;rw[Gu];have hlen:(ms.map vL++[(⟨5,0,l.length,[]⟩:Tok)]).length=ms.length+1:=by rw[List.length_append,List.length_map];rfl
 refine⟨by rw[hlen];omega,λi hi h1 =>?_,λi hi h1 =>?_,λhi =>?_,λhi =>?_⟩
 ·rw[hlen]at h1;rw[List.getElem_append_left (by rw[List.length_map];omega),List.getElem_map];exact(hm _ (List.getElem_mem _)).2.2
 ·rw[hlen]at h1;rw[List.getElem_append_left (by rw[List.length_map];omega),List.getElem_map];show ms[i].k≠5;have a:=hm _ (List.getElem_mem (show i<ms.length by omega));have b:=Kw ms[i].s;rw[a.1];omega
 ·rw[List.getElem_append_right (by rw[hlen,List.length_map];omega)];simp
 ·rw[List.getElem_append_right (by rw[hlen,List.length_map];omega)];simp
theorem NV {l:List UInt8}{ts:List Tk.Tok}(h:Tk.iF l 0=.ok ts):ts.length<=l.length+1:=by
 obtain⟨ms,rfl,hl,_⟩:=zy h;rw[List.length_append];show ms.length+1<=_;omega
theorem Ky {w:World}{A:Option Addr}{ts:List Tk.Tok}(h:Tk.lW w A ts):lW w A (ts.map vL):=λh0=>by
 obtain⟨b,off,e,hl,hc⟩:=h (by rwa [List.length_map]at h0);refine⟨b,off,e,hl,λj hj i hi =>?_⟩;rw[hc j (by rwa [List.length_map]at hj) i hi,List.getElem_map];rfl
def dI (x:Nd):Tr.Nd:=⟨x.kd,x.n,x.pl,bs x.tx,x.ks⟩
theorem xW {X:Nat->Prop}{w:World}{K:Option Addr}{ks:List Int}(h:Kd w X K ks):Tr.Ints w K ks:=λh0=>by
 obtain⟨b,cs,e,hb,hc,_⟩:=h h0;refine⟨b,0,e,(Array.getElem?_eq_some_iff.1 hb).1,λj hj =>?_⟩;rw[Nat.zero_add,cell_of_row w b j cs 3 (0,0) hb];exact hc j hj
theorem NW {X:Nat->Prop}{w:World}{base:Nat}{V:Value}{nd:List Nd}(h:iC w X base V nd):∃A c,V=.slice A nd.length c/\Tr.eF w A (nd.map dI)/\∀a,A=some a->base<=a.block:=by
 obtain⟨xs,hown,hcs⟩:=h;have hcell:=λ(b:Nat) (q:V.ownBlock=some b)=>hown.cells (g:=b) q
 rcases hown.2 with⟨e1,e2⟩ |⟨b,cap,cur,e1,e2,e3,_⟩
 ·refine⟨none,0,by rw[e1,e2],λh0 =>?_,λa e=>(by cases e)⟩;rw[List.length_map]at h0;omega
 ·refine⟨_,cap,e1,λh0=>⟨b,0,rfl,(Array.getElem?_eq_some_iff.1 e3).1,λj hj =>?_⟩,λa e=>by injection e with e;subst e;exact e2⟩;rw[List.length_map]at hj;obtain⟨K,c,e,hk,_⟩:=hcs j hj;have hc:=hcell b (by rw[e1];rfl);have get:∀i u,i<5->([.int .i64 nd[j].kd,.int .i64 nd[j].n,.int .i64 nd[j].pl,.string (bs nd[j].tx),.slice K nd[j].ks.length c]:List Value)[i]?=some u->w.cell? ⟨b,0+j*5+i,none⟩=some u:=λi u hi hu=>by
   rw[<- e,List.getElem?_take,if_pos hi,List.getElem?_drop]at hu;have:=hc _ _ hu;rw[Nat.zero_add]
   rwa [show(⟨b,0,none⟩:Addr).add (j*5+i)=⟨b,j*5+i,none⟩by simp[Addr.add];omega]at this
  simp only[List.getElem_map];refine⟨K,c,?_,get 1 _ (by decide) rfl,get 2 _ (by decide) rfl,get 3 _ (by decide) rfl,get 4 _ (by decide) rfl,xW hk⟩;have:=get 0 _ (by decide) rfl
  rwa [Nat.add_zero]at this
theorem xX {w:World}(A:Option Addr)(c n:Nat)(l:List Tr.Nd)(r:Int)(hN:Tr.eF w A l)(hn:n=l.length)(hk:∀x ∈ l,x.ks.length<=l.length):Calls Tryz.prog 101 #[.agg #[.slice A n c,.int .i64 r]] w (bU (.int .i64 (if 4000<n then 8 else if 40<Tr.dpt l r then 6 else 0)) w):=by
 have hb:Below w.heap.size w (w.alloc (.cells #[.slice A n c,.int .i64 r] 25)):=aa _ _;by_cases h4:4000<n
 ·rw[if_pos h4];have d:((4000:Int)<(n:Int)):=by omega
  clear hN hn hk h4;go_enter Tryz.func101,Tryz.ntmps101
  go_wp2
  go_ret
  exact⟨rfl,hb⟩
 ·rw[if_neg h4];have d:¬((4000:Int)<(n:Int)):=by omega
  have HD:=hid (Tr.rZ A c n l r _ (hN.below hb) hn (λx hx=>by have:=hk x hx;omega));generalize Tr.dpt l r=dd at *
  by_cases h5:40<dd
  ·rw[if_pos h5];have d5:((40:Int)<(dd:Int)):=by omega
   clear hN hn hk h4 h5;go_enter Tryz.func101,Tryz.ntmps101
   go_wp2_with (go_at_call 31;refine HD.out.mono ?_;rintro e w1 ⟨rfl,hb1⟩)
   go_ret
   exact⟨rfl,bt hb hb1⟩
  ·rw[if_neg h5];have d5:¬((40:Int)<(dd:Int)):=by omega
   clear hN hn hk h4 h5;go_enter Tryz.func101,Tryz.ntmps101
   go_wp2_with (go_at_call 31;refine HD.out.mono ?_;rintro e w1 ⟨rfl,hb1⟩)
   go_ret
   exact⟨rfl,bt hb hb1⟩
end
end Go.Proofs.YteecfjhjllajlaaGreatDoor
