/- PROVED: Qk TkI TkK Qm. No more condition. -/
import Derived.Test.YteecfjhjllajlaaGreatDoorM01
import Derived.Laws.Strings2
import Derived.Test.YteecfjhjllajlaaGreatDoorM21
set_option maxHeartbeats 4000000
set_option maxRecDepth 100000
namespace Go.Proofs.YteecfjhjllajlaaGreatDoor
open Go.Lib (hid)
open Go Go.RowKit
def KI (s:St):Prop:=∀x ∈ s.nd,x.ks.length<=s.nd.length
def Kc (n:Nat)(s:St)(b:Nat)(r:Rs):Prop:=∀v s',r=.ok v s'->(v.length+n<=s'.nd.length+b/\s.nd.length<=s'.nd.length)/\(KI s->KI s')
theorem Kc.bind {n n0 b b0:Nat}{s:St}{r:Rs}{f:List Int->St->Rs}(h:Kc n s b r)(q:∀v s',v.length+n<=s'.nd.length+b->s.nd.length<=s'.nd.length->Kc n0 s' b0 (f v s')):Kc n0 s b0 (r.bind f):=λv s' e=>by
 obtain⟨v1,s1,e1,e2⟩:=Rs.bind_ok e;have a:=h v1 s1 e1;have c:=q v1 s1 a.1.1 a.1.2 v s' e2;exact⟨⟨c.1.1,Nat.le_trans a.1.2 c.1.2⟩,λk=>c.2 (a.2 k)⟩
theorem dw {n b:Nat}{s:St}{kd m pl:Int}{tx:List UInt8}{ks:List Int}(hk:ks.length<=s.nd.length)(hn:n<=s.nd.length+b):Kc n s b (bv kd m pl tx ks s):=λv s' e=>by
 unfold bv at e;injection e with e1 e2;subst e1;subst e2
 refine⟨⟨by simp only[List.length_cons,List.length_nil,List.length_append];omega,by simp only[List.length_append];omega⟩,λh x hx =>?_⟩;have hx:x ∈ s.nd++[⟨kd,m,pl,tx,ks⟩]:=hx;show x.ks.length<=(s.nd++[(⟨kd,m,pl,tx,ks⟩:Nd)]).length;rw[List.length_append];rcases List.mem_append.1 hx with hx |hx
 ·have:=h x hx;omega
 ·obtain rfl:=List.mem_singleton.1 hx;show ks.length<=_;omega
theorem gZ {n b:Nat}{s:St}{v:List Int}(h:v.length+n<=s.nd.length+b):Kc n s b (.ok v s):=λv' s' e=>by
 injection e with e1 e2;subst e1;subst e2;exact⟨⟨h,Nat.le_refl _⟩,id⟩
theorem u_ {n b:Nat}{s:St}{p e:Nat}:Kc n s b (.no p e):=λv s' h=>by cases h
theorem ny {n b:Nat}{s:St}:Kc n s b .out:=λv s' h=>by cases h
theorem yB {s s':St}{b:Nat}(e:s'.nd=s.nd):Kc s.nd.length s b (.ok [] s'):=λv s2 h=>by
 injection h with e1 e2;subst e1;subst e2
 exact⟨⟨by rw[e];simp,by rw[e];exact Nat.le_refl _⟩,λk x hx=>by rw[e]at hx |-;exact k x hx⟩
section
variable {ts:List Tok} {s:St} {x:List UInt8}
theorem nz:Kc s.nd.length s 0 (gI ts x s):=by
 unfold gI;split
 ·exact yB rfl
 ·exact u_
theorem nA:Kc s.nd.length s 0 (eU ts s):=by
 unfold eU;split
 ·exact yB rfl
 ·exact u_
theorem GN:Kc s.nd.length s 0 (kZ ts s):=by
 unfold kZ;split
 ·exact yB rfl
 ·exact u_
theorem qj:Kc s.nd.length s 0 (gL ts x s):=by
 unfold gL;split
 ·exact u_
 ·exact nz.bind λv s' a b=>(show Kc s.nd.length s' 0 _ from gZ (by rw[List.length_nil];show 0+s.nd.length<=s'.nd.length+0;omega))
theorem ve:Kc s.nd.length s 0 (jd ts x s):=by
 unfold jd;exact nz.bind λv s' a b=>(show Kc s.nd.length s' 0 _ from gZ (by rw[List.length_nil];show 0+s.nd.length<=s'.nd.length+0;omega))
theorem C_:Kc s.nd.length s 1 (iG ts s):=by
 unfold iG;simp only;split
 ·exact u_
 ·exact gZ (s:=ae s) (by rw[List.length_singleton];show 1+s.nd.length<=s.nd.length+1;omega)
theorem yC {kd:Nat}:Kc s.nd.length s 0 (gD ts kd s):=by
 unfold gD;simp only;exact nA.bind λv s1 a b=>dw (Nat.zero_le _) (by omega)
theorem vg {kd:Nat}{pl:Int}:Kc s.nd.length s 0 (d9 ts kd pl s):=by
 unfold d9;simp only;exact nA.bind λv s1 a b=>C_.bind λv2 s2 a2 b2=>dw (Nat.zero_le _) (by omega)
theorem Da {kd:Nat}:Kc s.nd.length s 0 (fO ts kd s):=by
 unfold fO;simp only;exact(show Kc s.nd.length (ae s) 0 _ from(nA (s:=ae s)).bind λv s1 a b=>dw (Nat.zero_le _) (by have c:(ae s).nd.length=s.nd.length:=rfl;omega))
theorem mG {v:List Int}{n:Nat}(h:v.length+n<=s.nd.length):Kc n s 0 (bL ts v s):=by
 unfold bL;exact nz.bind λ_ s1 a b=>gZ (by omega)
end
def Na (rec:nM->St->Rs):Prop:=∀s,Kc s.nd.length s 0 (rec .una s)/\(∀r,Kc s.nd.length s 0 (rec (.bin r) s))/\(∀r (l:List Int) n,l.length+n<=s.nd.length->Kc n s 0 (rec (.loop r l) s))/\(∀(a:List Int) n,a.length+n<=s.nd.length->Kc n s 0 (rec (.exprs a) s))/\Kc s.nd.length s 0 (rec .stmt s)/\(∀p (a:List Int) n,a.length+n<=s.nd.length->Kc n s 0 (rec (.stmts p a) s))/\(∀k (a:List Int) n,a.length+n<=s.nd.length->Kc n s 0 (rec (.vars k a) s))/\(∀(a:List Int) n,a.length+n<=s.nd.length->Kc n s 0 (rec (.params a) s))/\∀(a:List Int) n,a.length+n<=s.nd.length->Kc n s 0 (rec (.procs a) s)
theorem fH {n b:Nat}{s:St}{r:Rs}(h:Kc n (ae s) b r):Kc n s b r:=h
theorem fQ (s:St):(ae s).nd.length=s.nd.length:=rfl
section
variable {ts:List Tok} {rec:nM->St->Rs} (hr:Na rec) {s:St}
include hr
theorem g_:Kc s.nd.length s 0 (a_ rec s):=(hr s).2.1 1
theorem GQ:Kc s.nd.length s 0 (kN ts rec s):=by
 unfold kN;exact qj.bind λ_ s1 a b=>(g_ hr).bind λv s2 a2 b2=>ve.bind λ_ s3 a3 b3=>gZ (by omega)
theorem KV:Kc s.nd.length s 0 (gM ts rec s):=by
 unfold gM;simp only;refine nA.bind λ_ s1 a b =>?_
 split
 ·exact(GQ hr).bind λv s2 a2 b2=>dw (by omega) (by omega)
 ·exact dw (Nat.zero_le _) (by omega)
theorem KW:Kc s.nd.length s 0 (gN ts rec s):=by
 unfold gN;simp only;exact qj.bind λ_ s1 a b=>(hr s1).1.bind λv s2 a2 b2=>(show Kc s.nd.length s2 0 _ from dw (s := {s2 with op:=s2.op-1}) (show v.length<=s2.nd.length by omega) (show s.nd.length<=s2.nd.length+0 by omega))
theorem OU:Kc s.nd.length s 0 (bg ts rec s):=by
 unfold bg;simp only;split
 ·exact KV hr
 split
 ·exact fH (dw (Nat.zero_le _) (Nat.le_refl _))
 split
 ·exact KW hr
 split
 ·exact fH (dw (Nat.zero_le _) (Nat.le_refl _))
 split
 ·exact Da
 split
 ·exact Da
 split
 ·exact qj.bind λ_ s1 a b=>(g_ hr).bind λv s2 a2 b2=>ve.bind λ_ s3 a3 b3=>gZ (by omega)
 ·exact u_
theorem OV {r:Nat}:Kc s.nd.length s 0 (iF rec r s):=by
 unfold iF;split
 ·exact(hr s).1
 ·exact((hr s).2.1 _).bind λv s1 a b=>(hr s1).2.2.1 _ _ _ (by omega)
theorem KY {r n:Nat}{l:List Int}(h:l.length+n<=s.nd.length):Kc n s 0 (iY ts rec r l s):=by
 unfold iY;simp only;split
 ·refine fH (((hr (ae s)).2.1 _).bind λv s1 a b=>(dw (n:=n) (b:=0) (by rw[List.length_append];have:=fQ s;omega) (by have:=fQ s;omega)).bind λv2 s2 a2 b2=>(hr s2).2.2.1 _ _ _ (by omega))
 ·exact gZ (by omega)
theorem GR {a:List Int}{n:Nat}(h:a.length+n<=s.nd.length):Kc n s 0 (eY ts rec a s):=by
 unfold eY;split
 ·exact fH ((g_ hr).bind λv s1 c d=>(hr s1).2.2.2.1 _ _ (by rw[List.length_append];have:=fQ s;omega))
 ·exact ve.bind λ_ s1 c d=>gZ (by omega)
theorem KZ:Kc s.nd.length s 0 (jk ts rec s):=by
 unfold jk;refine qj.bind λ_ s1 a b =>?_
 split
 ·exact(hr s1).2.2.2.1 _ _ (by rw[List.length_nil];omega)
 ·exact(g_ hr).bind λv s2 c d=>(hr s2).2.2.2.1 _ _ (by omega)
theorem Db {tx:List UInt8}{pl:Int}:Kc s.nd.length s 0 (gF ts rec tx pl s):=by
 unfold gF;exact nz.bind λ_ s1 a b=>yC.bind λv s2 c d=>(KZ hr).bind λv3 s3 e f=>dw (by rw[List.length_append];omega) (by omega)
theorem oo:Kc s.nd.length s 0 (dm ts rec s):=by
 unfold dm;simp only;exact qj.bind λ_ s1 a b=>(hr s1).2.2.2.2.2.1 _ _ _ (by rw[List.length_nil];omega)
theorem GU {pl:Int}{a:List Int}{n:Nat}(h:a.length+n<=s.nd.length):Kc n s 0 (gu ts rec pl a s):=by
 unfold gu;split
 ·exact ve.bind λ_ s1 c d=>dw (by omega) (by omega)
 ·exact(hr s).2.2.2.2.1.bind λv s1 c d=>(hr s1).2.2.2.2.2.1 _ _ _ (by rw[List.length_append];omega)
theorem K6 {t:Tok}:Kc s.nd.length s 0 (bJ ts rec t s):=by
 unfold bJ;simp only;split
 ·exact fH (yC.bind λv s1 a b=>dw (by have:=fQ s;omega) (by have:=fQ s;omega))
 split
 ·exact Db hr
 split
 ·exact fH ((g_ hr).bind λv s1 a b=>dw (by have:=fQ s;omega) (by have:=fQ s;omega))
 ·exact(g_ hr).bind λv s1 a b=>dw (by omega) (by omega)
theorem GV:Kc s.nd.length s 0 (dZ ts rec s):=by
 unfold dZ;simp only;refine nA.bind λ_ s1 a b =>?_
 split
 ·exact(GQ hr).bind λi s2 c d=>nz.bind λ_ s3 e f=>(g_ hr).bind λv s4 g h=>(dw (n:=s4.nd.length) (b:=0) (by rw[List.length_append];omega) (by omega)).bind λv5 s5 k l=>mG (by omega)
 ·exact nz.bind λ_ s3 e f=>(K6 hr).bind λv s4 g h=>mG (by omega)
theorem K7:Kc s.nd.length s 0 (l_ ts rec s):=by
 unfold l_;simp only;exact fH (yC.bind λi s2 c d=>(g_ hr).bind λv s4 g h=>(dw (n:=s4.nd.length) (b:=0) (by rw[List.length_append];have:=fQ s;omega) (by omega)).bind λv5 s5 k l=>mG (by have:=fQ s;omega))
theorem Q8:Kc s.nd.length s 0 (wI ts rec s):=by
 unfold wI;simp only;refine fH ((g_ hr).bind λv s1 a b=>(oo hr).bind λv2 s2 c d =>?_);split
 ·exact fH ((oo hr).bind λv3 s3 e f=>dw (by rw[List.length_append,List.length_append];have:=fQ s;have:=fQ s2;omega) (by have:=fQ s;have:=fQ s2;omega))
 ·exact(dw (n:=s2.nd.length) (b:=0) (Nat.zero_le _) (by omega)).bind λv3 s3 e f=>dw (by rw[List.length_append,List.length_append];have:=fQ s;omega) (by have:=fQ s;omega)
theorem GX:Kc s.nd.length s 0 (iw ts rec s):=by
 unfold iw;simp only;exact fH ((g_ hr).bind λv s1 a b=>(oo hr).bind λv2 s2 c d=>dw (by rw[List.length_append];have:=fQ s;omega) (by have:=fQ s;omega))
theorem Es:Kc s.nd.length s 0 (cO ts rec s):=by
 unfold cO;simp only;refine fH ?_;split
 ·exact dw (Nat.zero_le _) (Nat.le_refl _)
 ·exact(g_ hr).bind λv s1 a b=>dw (by have:=fQ s;omega) (by have:=fQ s;omega)
theorem GY:Kc s.nd.length s 0 (iP ts rec s):=by
 unfold iP;simp only;exact fH ((g_ hr).bind λv s1 a b=>dw (by have:=fQ s;omega) (by have:=fQ s;omega))
theorem OW:Kc s.nd.length s 0 (ma ts rec s):=by
 unfold ma;simp only;exact fH ((oo hr).bind λv s1 a b=>nz.bind λ_ s2 c d=>nA.bind λ_ s3 e f=>(oo hr).bind λv4 s4 g h=>dw (by rw[List.length_append];have:=fQ s;omega) (by have:=fQ s;omega))
theorem K8:Kc s.nd.length s 0 (aO ts rec s):=by
 unfold aO;simp only;split
 ·exact GV hr
 split
 ·exact K7 hr
 split
 ·exact Q8 hr
 split
 ·exact GX hr
 split
 ·exact(Db hr).bind λv s1 a b=>mG (by omega)
 split
 ·exact(Es hr).bind λv s1 a b=>mG (by omega)
 split
 ·exact(GY hr).bind λv s1 a b=>mG (by omega)
 split
 ·exact OW hr
 ·exact u_
theorem K9 {k:Nat}{a:List Int}{n:Nat}(h:a.length+n<=s.nd.length):Kc n s 0 (jC ts rec k a s):=by
 unfold jC;split
 ·exact fH (vg.bind λv s1 c d=>nz.bind λ_ s2 e f=>(hr s2).2.2.2.2.2.2.1 _ _ _ (by rw[List.length_append];have:=fQ s;omega))
 ·exact gZ (by omega)
theorem Et {a:List Int}{n:Nat}(h:a.length+n<=s.nd.length):Kc n s 0 (dD ts rec a s):=by
 unfold dD iy;split
 ·exact fH (vg.bind λv s1 c d=>(hr s1).2.2.2.2.2.2.2.1 _ _ (by rw[List.length_append];have:=fQ s;omega))
 ·exact ve.bind λ_ s1 c d=>gZ (by omega)
theorem GZ:Kc s.nd.length s 0 (gy ts rec s):=by
 unfold gy iy;refine qj.bind λ_ s1 a b =>?_
 split
 ·exact(hr s1).2.2.2.2.2.2.2.1 _ _ (by rw[List.length_nil];omega)
 ·exact vg.bind λv s2 c d=>(hr s2).2.2.2.2.2.2.2.1 _ _ (by omega)
theorem K_:Kc s.nd.length s 0 (jl ts rec s):=by
 unfold jl;simp only;refine nz.bind λ_ s1 a b=>nA.bind λ_ s2 c d=>(GZ hr).bind λv3 s3 e f=>Kc.bind (n:=s3.nd.length) (b:=1) ?_ λv4 s4 g h=>qj.bind λ_ s5 i j=>((hr s5).2.2.2.2.2.2.1 _ _ s5.nd.length (by rw[List.length_nil];omega)).bind λv6 s6 k l=>((hr s6).2.2.2.2.2.1 _ _ s6.nd.length (by rw[List.length_nil];omega)).bind λv7 s7 m n=>dw (by rw[List.length_append,List.length_append];omega) (by omega)
 split
 ·exact gZ (by rw[List.length_singleton];omega)
 ·exact C_
theorem G5 {a:List Int}{n:Nat}(h:a.length+n<=s.nd.length):Kc n s 0 (gz ts rec a s):=by
 unfold gz;split
 ·exact(K_ hr).bind λv s1 c d=>(hr s1).2.2.2.2.2.2.2.2 _ _ (by rw[List.length_append];omega)
 ·exact gZ (by omega)
theorem La:Kc s.nd.length s 0 (jm ts rec s):=by
 unfold jm;exact(g_ hr).bind λv s1 a b=>GN.bind λ_ s2 c d=>gZ (by omega)
theorem BC:Kc s.nd.length s 0 (bT ts rec s):=by
 unfold bT;exact((hr s).2.2.2.2.2.2.1 _ _ s.nd.length (by rw[List.length_nil];omega)).bind λv s1 a b=>((hr s1).2.2.2.2.2.2.2.2 _ s.nd.length (by omega)).bind λv2 s2 c d=>GN.bind λ_ s3 e f=>dw (by omega) (by omega)
end
theorem BD (ts:List Tok):∀f,Na (run ts f)
 |0=>λ_=>⟨ny,λ_=>ny,λ_ _ _ _=>ny,λ_ _ _=>ny,ny,λ_ _ _ _=>ny,λ_ _ _ _=>ny,λ_ _ _=>ny,λ_ _ _=>ny⟩
 |f+1=>λ_=>
  have hr:=BD ts f
  ⟨OU hr,λ_=>OV hr,λ_ _ _ h=>KY hr h,λ_ _ h=>GR hr h,K8 hr,λ_ _ _ h=>GU hr h,λ_ _ _ h=>K9 hr h,λ_ _ h=>Et hr h,λ_ _ h=>G5 hr h⟩
theorem wV {ts:List Tok}{v:List Int}{s:St}(h:iH ts=.ok v s):∀x ∈ s.nd,x.ks.length<=s.nd.length:=(BC (BD ts _) v s h).2 (λx hx=>by cases hx)
theorem Eu {ts:List Tok}{v:List Int}{s:St}(h:gP ts=.ok v s):∀x ∈ s.nd,x.ks.length<=s.nd.length:=(La (BD ts _) v s h).2 (λx hx=>by cases hx)
namespace Tk
def wu (c:UInt8):Bool:=c.toNat != 10
theorem Nc (s:ByteArray)(b k:Nat)(w:World)(hk:k<s.size)(hc:w.cell? ⟨b,0,none⟩=some (.string s)):Calls Tryz.prog 264 #[.int .i64 (k:Int),.pointer (some ⟨b,0,none⟩)] w λe w'=>e=.returned (.bool (kz s[k]))/\w=w':=by
 go_enter Tryz.func264,Tryz.ntmps264
 go_wp2_with (go_at_call 160;refine(iU _ _).mono ?_;rintro e w' ⟨rfl,rfl⟩)
 go_ret
 simp
theorem Nf (s:ByteArray)(b k:Nat)(w:World)(hk:k<s.size)(hc:w.cell? ⟨b,0,none⟩=some (.string s)):Calls Tryz.prog 265 #[.int .i64 (k:Int),.pointer (some ⟨b,0,none⟩)] w λe w'=>e=.returned (.bool (wu s[k]))/\w=w':=by
 have hb:wu s[k]=((s[k].toNat:Int) != 10):=by unfold wu;rw[Bool.eq_iff_iff];simp;omega
 rw[hb];clear hb;generalize hq:((s[k].toNat:Int) != 10)=q at *
 go_enter Tryz.func265,Tryz.ntmps265
 go_wp2
 go_ret
 simp
theorem Ng (s:ByteArray)(b k:Nat)(w:World)(hk:k<s.size)(hc:w.cell? ⟨b,0,none⟩=some (.string s)):Calls Tryz.prog 266 #[.int .i64 (k:Int),.pointer (some ⟨b,0,none⟩)] w λe w'=>e=.returned (.bool (wdB s[k]))/\w=w':=by
 go_enter Tryz.func266,Tryz.ntmps266
 go_wp2_with (go_at_call 252;refine(iC _ _).mono ?_;rintro e w' ⟨rfl,rfl⟩)
 go_ret
 simp
theorem G6 (s:ByteArray)(a b:Nat):(s.extract a b).data.toList=(s.data.toList.drop a).take (b-a):=by
 rw[ByteArray.data_extract,Array.toList_extract,List.extract_eq_take_drop]
theorem wW (s:ByteArray)(i j:Nat)(jj:Int)(hj:jj=(j:Int))(h1:i<=j)(h2:j<=s.size)(w:World) :
  (Instr.slice 9 (.string s) (some (.int .i64 (i:Int))) (some (.int .i64 jj)) none).run Tryz.prog w=.ok (.string (s.extract i j)) w:=by
 subst hj;have:=run_slice_string (P:=Tryz.prog) w 9 s .i64 .i64 (i:Int) (j:Int) Tryz.underlying9 (by omega) (by omega) (by omega);simpa using this
theorem Nh (s:ByteArray)(b p k:Nat)(w:World)(hp:p<=k)(hk:k<s.size)(hs:s.size<=281474976710656)(hc:w.cell? ⟨b,0,none⟩=some (.string s))(hd:w.cell? ⟨b+1,0,none⟩=some (.int .i64 (p:Int))) :
  Calls Tryz.prog 267 #[.int .i64 (k:Int),.pointer (some ⟨b,0,none⟩),.pointer (some ⟨b+1,0,none⟩)] w λe w'=>e=.returned (.bool (dJ ((s.data.toList.drop p).take (k+1-p))))/\w=w':=by
 have hsl:=wW s p (k+1) ((k:Int)+1) (by omega) (by omega) (by omega);go_enter Tryz.func267,Tryz.ntmps267
 go_wp2_with (go_at_call 237;refine(sj _ _).mono ?_;rintro e w' ⟨rfl,rfl⟩)
 go_ret
 exact⟨rfl,rfl⟩
def sO (c:UInt8)(b:Nat):Value:=
 if kz c then .func (.func 264) #[] #[.pointer (some ⟨b,0,none⟩)]
 else if pK c then .func (.func 265) #[] #[.pointer (some ⟨b,0,none⟩)]
 else if wdB c then .func (.func 266) #[] #[.pointer (some ⟨b,0,none⟩)]
 else .func (.func 267) #[] #[.pointer (some ⟨b,0,none⟩),.pointer (some ⟨b+1,0,none⟩)]
def Lb (s:ByteArray)(p:Nat)(c:UInt8)(w:World)(e:Ending)(w':World):Prop:=
 e=.returned (sO c w.heap.size)/\w'=(w.alloc (.cells #[.string s] 9)).alloc (.cells #[.int .i64 (p:Int)] 3)
theorem kF (s:ByteArray)(p:Nat)(w:World)(hk:p<s.size):Calls Tryz.prog 235 #[.string s,.int .i64 (p:Int)] w (Lb s p s[p] w):=by
 cases h1:kz s[p]
 ·cases h2:pK s[p]
  ·cases h3:wdB s[p]
   ·go_enter Tryz.func235,Tryz.ntmps235
    go_wp2_with (first|(go_at_call 160;refine(iU _ _).mono ?_;rintro e w' ⟨rfl,rfl⟩) |(go_at_call 161;refine(gJ _ _).mono ?_;rintro e w' ⟨rfl,rfl⟩) |(go_at_call 252;refine(iC _ _).mono ?_;rintro e w' ⟨rfl,rfl⟩))
    go_ret
    exact⟨by simp only[sO,h1,h2,h3,Bool.false_eq_true,if_false];rfl,rfl⟩
   ·go_enter Tryz.func235,Tryz.ntmps235
    go_wp2_with (first|(go_at_call 160;refine(iU _ _).mono ?_;rintro e w' ⟨rfl,rfl⟩) |(go_at_call 161;refine(gJ _ _).mono ?_;rintro e w' ⟨rfl,rfl⟩) |(go_at_call 252;refine(iC _ _).mono ?_;rintro e w' ⟨rfl,rfl⟩))
    go_ret
    exact⟨by simp only[sO,h1,h2,h3,Bool.false_eq_true,if_false,if_true];rfl,rfl⟩
  ·go_enter Tryz.func235,Tryz.ntmps235
   go_wp2_with (first|(go_at_call 160;refine(iU _ _).mono ?_;rintro e w' ⟨rfl,rfl⟩) |(go_at_call 161;refine(gJ _ _).mono ?_;rintro e w' ⟨rfl,rfl⟩) |(go_at_call 252;refine(iC _ _).mono ?_;rintro e w' ⟨rfl,rfl⟩))
   go_ret
   exact⟨by simp only[sO,h1,h2,Bool.false_eq_true,if_false,if_true];rfl,rfl⟩
 ·go_enter Tryz.func235,Tryz.ntmps235
  go_wp2_with (first|(go_at_call 160;refine(iU _ _).mono ?_;rintro e w' ⟨rfl,rfl⟩) |(go_at_call 161;refine(gJ _ _).mono ?_;rintro e w' ⟨rfl,rfl⟩) |(go_at_call 252;refine(iC _ _).mono ?_;rintro e w' ⟨rfl,rfl⟩))
  go_ret
  exact⟨by simp only[sO,h1,if_true];rfl,rfl⟩
def nN (q:UInt8->Bool)(l:List UInt8)(a k:Nat):Prop:=∀j (h:j<l.length),a<=j->j<k->q l[j]=true
theorem nN.nil (q:UInt8->Bool)(l:List UInt8)(a:Nat):nN q l a a:=λj _ h1 h2=>by omega
theorem nN.snoc {q:UInt8->Bool}{l:List UInt8}{a k:Nat}(h:nN q l a k)(hk:∀h:k<l.length,q l[k]=true):nN q l a (k+1):=λj hj h1 h2=>by
 by_cases e:j=k
 ·subst e;exact hk hj
 ·exact h j hj h1 (by omega)
theorem sP {q:UInt8->Bool}{l:List UInt8}{a k:Nat}(ha:nN q l a k)(h1:a<=k)(h2:k<=l.length)(hend:∀h:k<l.length,q l[k]=false):((l.drop a).takeWhile q).length=k-a:=by
 have e:l.drop a=(l.drop a).take (k-a)++l.drop k:=by
  conv=>lhs;rw[<- List.take_append_drop (k-a) (l.drop a)]
  rw[List.drop_drop,show a+(k-a)=k by omega]
 rw[e,List.takeWhile_append_of_pos]
 ·have h3:(l.drop k).takeWhile q=[]:=by
   by_cases hk:k<l.length
   ·rw[List.drop_eq_getElem_cons hk,List.takeWhile_cons,hend hk];rfl
   ·rw[List.drop_of_length_le (by omega)];rfl
  rw[h3];simp;omega
 ·intro x hx;obtain⟨i,hi,rfl⟩:=List.getElem_of_mem hx;simp at hi |-;exact ha (a+i) (by omega) (by omega) (by omega)
theorem oq (s:ByteArray)(p:Nat)(h:p<s.size):s.data.toList.getD p 0=s[p]:=by
 rw[List.getD_eq_getElem?_getD,List.getElem?_eq_getElem (by simpa using h)];rfl
def jb (l:List UInt8)(p:Nat):Nat:=
 p+1+(if kz (l.getD p 0) then ((l.drop (p+1)).takeWhile kz).length else if pK (l.getD p 0) then ((l.drop (p+1)).takeWhile wu).length else if wdB (l.getD p 0) then ((l.drop (p+1)).takeWhile wdB).length
  else if dJ ((l.drop p).take 2)=true/\p+1<l.length then 1 else 0)
def vk (l:List UInt8)(p:Nat)(w:World)(e:Ending)(w':World):Prop:=e=.returned (.int .i64 (jb l p:Int))/\Below w.heap.size w w'
theorem G7 (s:ByteArray)(p:Nat)(w:World)(hp:p<s.size)(hs:s.size<=281474976710656)(h1:kz s[p]=true):Calls Tryz.prog 159 #[.string s,.int .i64 (p:Int)] w (vk s.data.toList p w):=by
 have hv:sO s[p] w.heap.size=.func (.func 264) #[] #[.pointer (some ⟨w.heap.size,0,none⟩)]:=by simp only[sO,h1,if_true]
 have HG:=hid (oq s p hp);have HK:=hid (show jb s.data.toList p=p+1+((s.data.toList.drop (p+1)).takeWhile kz).length by unfold jb;rw[HG.out];simp only[h1,if_true]);have HV:=hid hv;clear hv h1;go_enter Tryz.func159,Tryz.ntmps159
 go_wp2_with (go_at_call 235;refine(kF s p _ hp).mono ?_);rintro e w1 ⟨rfl,hw⟩;rw[HV.out];have hc:w1.cell? ⟨w.heap.size,0,none⟩=some (.string s):=by rw[hw];simp
 have hb:Below w.heap.size w w1:=by rw[hw];exact(aa w _).alloc (by simp) _
 have HC:=hid hc;clear hw hc;go_wp2
 go_loop [6] (λi=>∃k:Nat,p+1<=k/\k<=s.size/\i=.int .i64 (k:Int)/\nN kz s.data.toList (p+1) k) (λi=>s.size-(intOf i).toNat)
 case atStart=>exact⟨p+1,Nat.le_refl _,by omega,by go_num,nN.nil _ _ _⟩
 case round=>
  obtain⟨k,hk1,hk2,rfl,ha⟩:=hrel;by_cases hlt:k<s.size
  ·have hlz:(k:Int)<(s.size:Int):=by omega
   cases hq:kz s[k]
   ·have HQ:=hid hq;go_wp2_with (go_at_call 264;refine(Nc s _ k _ hlt HC.out).mono ?_;rintro e w' ⟨rfl,rfl⟩)
    go_ret
    exact⟨aP (by rw[HK.out,sP ha hk1 (by simpa using hk2) (λ_=>by simpa [ByteArray.getElem_eq_getElem_data]using HQ.out)];omega),hb⟩
   ·have HQ:=hid hq;go_wp2_with (go_at_call 264;refine(Nc s _ k _ hlt HC.out).mono ?_;rintro e w' ⟨rfl,rfl⟩)
    go_round
    case rel=>exact⟨k+1,by omega,by omega,by go_num,ha.snoc (λ_=>by simpa [ByteArray.getElem_eq_getElem_data]using HQ.out)⟩
    case measure=>simp[intOf];omega
  ·have hlz:¬(k:Int)<(s.size:Int):=by omega
   go_wp2
   go_ret
   exact⟨aP (by rw[HK.out,sP ha hk1 (by simpa using hk2) (λh=>absurd h (by simpa using hlt))];omega),hb⟩
theorem G8 (s:ByteArray)(p:Nat)(w:World)(hp:p<s.size)(hs:s.size<=281474976710656)(h1:kz s[p]=false)(h2:pK s[p]=true):Calls Tryz.prog 159 #[.string s,.int .i64 (p:Int)] w (vk s.data.toList p w):=by
 have hv:sO s[p] w.heap.size=.func (.func 265) #[] #[.pointer (some ⟨w.heap.size,0,none⟩)]:=by simp only[sO,h1,h2,Bool.false_eq_true,if_false,if_true]
 have HG:=hid (oq s p hp);have HK:=hid (show jb s.data.toList p=p+1+((s.data.toList.drop (p+1)).takeWhile wu).length by unfold jb;rw[HG.out];simp only[h1,h2,Bool.false_eq_true,if_false,if_true]);have HV:=hid hv;clear hv h1 h2;go_enter Tryz.func159,Tryz.ntmps159
 go_wp2_with (go_at_call 235;refine(kF s p _ hp).mono ?_);rintro e w1 ⟨rfl,hw⟩;rw[HV.out];have hc:w1.cell? ⟨w.heap.size,0,none⟩=some (.string s):=by rw[hw];simp
 have hb:Below w.heap.size w w1:=by rw[hw];exact(aa w _).alloc (by simp) _
 have HC:=hid hc;clear hw hc;go_wp2
 go_loop [6] (λi=>∃k:Nat,p+1<=k/\k<=s.size/\i=.int .i64 (k:Int)/\nN wu s.data.toList (p+1) k) (λi=>s.size-(intOf i).toNat)
 case atStart=>exact⟨p+1,Nat.le_refl _,by omega,by go_num,nN.nil _ _ _⟩
 case round=>
  obtain⟨k,hk1,hk2,rfl,ha⟩:=hrel;by_cases hlt:k<s.size
  ·have hlz:(k:Int)<(s.size:Int):=by omega
   cases hq:wu s[k]
   ·have HQ:=hid hq;go_wp2_with (go_at_call 265;refine(Nf s _ k _ hlt HC.out).mono ?_;rintro e w' ⟨rfl,rfl⟩)
    go_ret
    exact⟨aP (by rw[HK.out,sP ha hk1 (by simpa using hk2) (λ_=>by simpa [ByteArray.getElem_eq_getElem_data]using HQ.out)];omega),hb⟩
   ·have HQ:=hid hq;go_wp2_with (go_at_call 265;refine(Nf s _ k _ hlt HC.out).mono ?_;rintro e w' ⟨rfl,rfl⟩)
    go_round
    case rel=>exact⟨k+1,by omega,by omega,by go_num,ha.snoc (λ_=>by simpa [ByteArray.getElem_eq_getElem_data]using HQ.out)⟩
    case measure=>simp[intOf];omega
  ·have hlz:¬(k:Int)<(s.size:Int):=by omega
   go_wp2
   go_ret
   exact⟨aP (by rw[HK.out,sP ha hk1 (by simpa using hk2) (λh=>absurd h (by simpa using hlt))];omega),hb⟩
theorem G9 (s:ByteArray)(p:Nat)(w:World)(hp:p<s.size)(hs:s.size<=281474976710656)(h1:kz s[p]=false)(h2:pK s[p]=false)(h3:wdB s[p]=true):Calls Tryz.prog 159 #[.string s,.int .i64 (p:Int)] w (vk s.data.toList p w):=by
 have hv:sO s[p] w.heap.size=.func (.func 266) #[] #[.pointer (some ⟨w.heap.size,0,none⟩)]:=by simp only[sO,h1,h2,h3,Bool.false_eq_true,if_false,if_true]
 have HG:=hid (oq s p hp);have HK:=hid (show jb s.data.toList p=p+1+((s.data.toList.drop (p+1)).takeWhile wdB).length by unfold jb;rw[HG.out];simp only[h1,h2,h3,Bool.false_eq_true,if_false,if_true]);have HV:=hid hv;clear hv h1 h2 h3;go_enter Tryz.func159,Tryz.ntmps159
 go_wp2_with (go_at_call 235;refine(kF s p _ hp).mono ?_);rintro e w1 ⟨rfl,hw⟩;rw[HV.out];have hc:w1.cell? ⟨w.heap.size,0,none⟩=some (.string s):=by rw[hw];simp
 have hb:Below w.heap.size w w1:=by rw[hw];exact(aa w _).alloc (by simp) _
 have HC:=hid hc;clear hw hc;go_wp2
 go_loop [6] (λi=>∃k:Nat,p+1<=k/\k<=s.size/\i=.int .i64 (k:Int)/\nN wdB s.data.toList (p+1) k) (λi=>s.size-(intOf i).toNat)
 case atStart=>exact⟨p+1,Nat.le_refl _,by omega,by go_num,nN.nil _ _ _⟩
 case round=>
  obtain⟨k,hk1,hk2,rfl,ha⟩:=hrel;by_cases hlt:k<s.size
  ·have hlz:(k:Int)<(s.size:Int):=by omega
   cases hq:wdB s[k]
   ·have HQ:=hid hq;go_wp2_with (go_at_call 266;refine(Ng s _ k _ hlt HC.out).mono ?_;rintro e w' ⟨rfl,rfl⟩)
    go_ret
    exact⟨aP (by rw[HK.out,sP ha hk1 (by simpa using hk2) (λ_=>by simpa [ByteArray.getElem_eq_getElem_data]using HQ.out)];omega),hb⟩
   ·have HQ:=hid hq;go_wp2_with (go_at_call 266;refine(Ng s _ k _ hlt HC.out).mono ?_;rintro e w' ⟨rfl,rfl⟩)
    go_round
    case rel=>exact⟨k+1,by omega,by omega,by go_num,ha.snoc (λ_=>by simpa [ByteArray.getElem_eq_getElem_data]using HQ.out)⟩
    case measure=>simp[intOf];omega
  ·have hlz:¬(k:Int)<(s.size:Int):=by omega
   go_wp2
   go_ret
   exact⟨aP (by rw[HK.out,sP ha hk1 (by simpa using hk2) (λh=>absurd h (by simpa using hlt))];omega),hb⟩
theorem Ev {l:List UInt8}(h:dJ l=true):l.length=1\/l.length=2:=by
 simp only[dJ,Bool.or_eq_true,beq_iff_eq]at h;rcases h with((((((((((((((((((((((h |h) |h) |h) |h) |h) |h) |h) |h) |h) |h) |h) |h) |h) |h) |h) |h) |h) |h) |h) |h) |h) |h) |h<;>subst h<;>simp
def Dc (l:List UInt8)(p k:Nat):Prop:=k=p+1\/(k=p+2/\dJ ((l.drop p).take 2)=true/\p+1<l.length)
theorem Ni {l:List UInt8}{p:Nat}(h1:kz (l.getD p 0)=false)(h2:pK (l.getD p 0)=false)(h3:wdB (l.getD p 0)=false):jb l p=p+1+(if dJ ((l.drop p).take 2)=true/\p+1<l.length then 1 else 0):=by
 unfold jb;simp only[h1,h2,h3,Bool.false_eq_true,if_false]
theorem G_ {l:List UInt8}{p k:Nat}(hr:Dc l p k)(hE:jb l p=p+1+(if dJ ((l.drop p).take 2)=true/\p+1<l.length then 1 else 0))(he:k<l.length->dJ ((l.drop p).take (k+1-p))=false):k=jb l p:=by
 rw[hE];rcases hr with rfl |⟨rfl,h,h'⟩
 ·by_cases hl:p+1<l.length
  ·have:=he hl;rw[show p+1+1-p=2 by omega]at this;rw[if_neg (by rw[this];simp)]
  ·rw[if_neg (λh=>hl h.2)]
 ·rw[if_pos ⟨h,h'⟩]
theorem Lc {l:List UInt8}{p k:Nat}(hr:Dc l p k)(hk:k<l.length)(he:dJ ((l.drop p).take (k+1-p))=true):Dc l p (k+1):=by
 rcases hr with rfl |⟨rfl,h,h'⟩
 ·rw[show p+1+1-p=2 by omega]at he;exact .inr ⟨rfl,he,hk⟩
 ·exfalso;have:=Ev he;simp at this;omega
theorem Ha (s:ByteArray)(p:Nat)(w:World)(hp:p<s.size)(hs:s.size<=281474976710656)(h1:kz s[p]=false)(h2:pK s[p]=false)(h3:wdB s[p]=false):Calls Tryz.prog 159 #[.string s,.int .i64 (p:Int)] w (vk s.data.toList p w):=by
 have hv:sO s[p] w.heap.size=.func (.func 267) #[] #[.pointer (some ⟨w.heap.size,0,none⟩),.pointer (some ⟨w.heap.size+1,0,none⟩)]:=by simp only[sO,h1,h2,h3,Bool.false_eq_true,if_false]
 have hg:=oq s p hp;have hl:s.data.toList.length=s.size:=by simp
 have HE:=hid (Ni (l:=s.data.toList) (p:=p) (by rw[hg];exact h1) (by rw[hg];exact h2) (by rw[hg];exact h3));have HL:=hid hl;have HV:=hid hv;clear hv h1 h2 h3 hg hl;go_enter Tryz.func159,Tryz.ntmps159
 go_wp2_with (go_at_call 235;refine(kF s p _ hp).mono ?_);rintro e w1 ⟨rfl,hw⟩;rw[HV.out];have hc:w1.cell? ⟨w.heap.size,0,none⟩=some (.string s):=by rw[hw];simp
 have hd:w1.cell? ⟨w.heap.size+1,0,none⟩=some (.int .i64 (p:Int)):=by rw[hw];simp
 have hb:Below w.heap.size w w1:=by rw[hw];exact(aa w _).alloc (by simp) _
 have HC:=hid hc;have HD:=hid hd;clear hw hc hd;go_wp2
 go_loop [6] (λi=>∃k:Nat,p+1<=k/\k<=s.size/\i=.int .i64 (k:Int)/\Dc s.data.toList p k) (λi=>s.size-(intOf i).toNat)
 case atStart=>exact⟨p+1,Nat.le_refl _,by omega,by go_num,.inl rfl⟩
 case round=>
  obtain⟨k,hk1,hk2,rfl,ha⟩:=hrel;by_cases hlt:k<s.size
  ·have hlz:(k:Int)<(s.size:Int):=by omega
   cases hq:dJ ((s.data.toList.drop p).take (k+1-p))
   ·have HQ:=hid hq;go_wp2_with (go_at_call 267;refine(Nh s _ p k _ (by omega) hlt hs HC.out HD.out).mono ?_;rintro e w' ⟨rfl,rfl⟩)
    go_ret
    exact⟨aP (by rw[<- G_ ha HE.out (λ_=>HQ.out)]),hb⟩
   ·have HQ:=hid hq;go_wp2_with (go_at_call 267;refine(Nh s _ p k _ (by omega) hlt hs HC.out HD.out).mono ?_;rintro e w' ⟨rfl,rfl⟩)
    go_round
    case rel=>exact⟨k+1,by omega,by omega,by go_num,Lc ha (by rw[HL.out];exact hlt) HQ.out⟩
    case measure=>simp[intOf];omega
  ·have hlz:¬(k:Int)<(s.size:Int):=by omega
   go_wp2
   go_ret
   exact⟨aP (by rw[<- G_ ha HE.out (λh=>absurd h (by rw[HL.out];exact hlt))]),hb⟩
theorem Ew (s:ByteArray)(p:Nat)(w:World)(hp:p<s.size)(hs:s.size<=281474976710656):Calls Tryz.prog 159 #[.string s,.int .i64 (p:Int)] w (vk s.data.toList p w):=by
 cases h1:kz s[p]
 ·cases h2:pK s[p]
  ·cases h3:wdB s[p]
   ·exact Ha s p w hp hs h1 h2 h3
   ·exact G9 s p w hp hs h1 h2 h3
  ·exact G8 s p w hp hs h1 h2
 ·exact G7 s p w hp hs h1
theorem Hd {q:UInt8->Bool}(l:List UInt8):(l.takeWhile q).length<=l.length:=by
 exact(List.takeWhile_prefix q).length_le
theorem eD {l:List UInt8}{p:Nat}(hp:p<l.length):p+1<=jb l p/\jb l p<=l.length:=by
 refine⟨by unfold jb;omega,?_⟩;unfold jb;have a:=Hd (q:=kz) (l.drop (p+1));have b:=Hd (q:=wu) (l.drop (p+1));have c:=Hd (q:=wdB) (l.drop (p+1));simp only[List.length_drop]at a b c;split
 ·omega
 ·split
  ·omega
  ·split
   ·omega
   ·split<;>omega
structure Tok where
 k:Nat
 n:Int
 p:Nat
 s:List UInt8
deriving DecidableEq,Repr
def bs (l:List UInt8):ByteArray:=⟨l.toArray⟩
theorem rf (l:List UInt8):(bs l).data.toList=l:=by simp[bs]
theorem Q9 (s:ByteArray):bs s.data.toList=s:=by cases s;simp[bs]
def AU (t:Tok):List Value:=[.int .i64 (t.k:Int),.int .i64 t.n,.int .i64 (t.p:Int),.string (bs t.s)]
def BF (ts:List Tok):List Value:=ts.flatMap AU
theorem zR (t:Tok)(ts:List Tok):BF (t :: ts)=AU t++BF ts:=rfl
theorem De (a b:List Tok):BF (a++b)=BF a++BF b:=by unfold BF;rw[List.flatMap_append]
theorem Df:∀(ts:List Tok) (j:Nat) (hj:j<ts.length) (i:Nat),i<4->(BF ts)[j*4+i]?=(AU ts[j])[i]?
 |t :: ts,0,_,i,hi=>by
  rw[zR,List.getElem?_append_left (by simp[AU];omega)];simp
 |t :: ts,j+1,hj,i,hi=>by
  rw[zR,List.getElem?_append_right (by simp[AU];omega)];have ih:=Df ts j (by simpa using hj) i hi;rw[show(j+1)*4+i-(AU t).length=j*4+i by simp[AU];omega,ih];rfl
def mg (w:World)(A:Option Addr)(ts:List Tok):Prop:=
 0<ts.length->∃b off,A=some ⟨b,off,none⟩/\b<w.heap.size/\∀j (hj:j<ts.length) i,i<4->w.cell? ⟨b,off+j*4+i,none⟩=(AU ts[j])[i]?
theorem mg.below {w w':World}{A:Option Addr}{ts:List Tok}(h:mg w A ts)(hb:Below w.heap.size w w'):mg w' A ts:=λh0=>by
 obtain⟨b,off,e,hl,hc⟩:=h h0;exact⟨b,off,e,Nat.lt_of_lt_of_le hl hb.size,λj hj i hi=>(hb.cell (p:=⟨b,off+j*4+i,none⟩) hl).trans (hc j hj i hi)⟩
theorem own_below {w w':World}{base e size n:Nat}{v:Value}{xs:List Value}(h:w.ownsRow base e size v n xs)(hb:Below w.heap.size w w'):w'.ownsRow base e size v n xs:=
 h.kept (row:=none) ⟨hb.os,hb.tape,hb.output,hb.size,λi hi _=>hb.block i hi⟩ (by cases h:v.ownBlock<;>simp)
theorem He {w:World}{base:Nat}{v:Value}{ts:List Tok}(h:w.ownsRow base 105 4 v ts.length (BF ts)):∃A c,v=.slice A ts.length c/\mg w A ts/\∀a,A=some a->base<=a.block:=by
 rcases h.2 with⟨rfl,e⟩ |⟨g,cap,cur,rfl,hb,hg,hn,_,_,ht⟩
 ·exact⟨none,0,by rw[e],λh0=>by omega,λa e=>by cases e⟩
 ·refine⟨_,cap,rfl,λh0=>⟨g,0,rfl,(Array.getElem?_eq_some_iff.1 hg).1,λj hj i hi =>?_⟩,λa e=>by injection e with e;subst e;exact hb⟩;have h1:=Df ts j hj i hi;rw[<- ht,List.getElem?_take,if_pos (by omega)]at h1;rw[Nat.zero_add,cell_of_row w g (j*4+i) cur 105 (0,0) hg,<- h1];simp
inductive wX where
 |ok (l:List Tok)
 |bad (p:Nat)
deriving DecidableEq
def wX.pre (a:List Tok):wX->wX
 | .ok l =>.ok (a++l)
 | .bad p =>.bad p
theorem wX.pre_nil (r:wX):r.pre []=r:=by cases r<;>rfl
theorem wX.pre_pre (a b:List Tok)(r:wX):(r.pre b).pre a=r.pre (a++b):=by cases r<;>simp[wX.pre]
def ql (n:Nat):Tok:=⟨5,0,n,[]⟩
def sub (l:List UInt8)(p q:Nat):List UInt8:=(l.drop p).take (q-p)
def tZ (l:List UInt8)(p q:Nat):Tok:=⟨cB (sub l p q),jA (sub l p q),p,sub l p q⟩
def lN:Nat->List UInt8->Nat->wX
 |0,l,_ =>.ok [ql l.length]
 |f+1,l,p=>
  if p<l.length then
   if kz (l.getD p 0) || pK (l.getD p 0) then lN f l (jb l p)
   else if cB (sub l p (jb l p))=0 then .bad p
   else (lN f l (jb l p)).pre [tZ l p (jb l p)]
  else .ok [ql l.length]
theorem wY:∀(f:Nat) (l:List UInt8) (p g:Nat),l.length-p<=f->l.length-p<=g->lN f l p=lN g l p
 |0,l,p,0,_,_=>rfl
 |0,l,p,g+1,h,_=>by simp only[lN];rw[if_neg (by omega)]
 |f+1,l,p,0,_,h=>by simp only[lN];rw[if_neg (by omega)]
 |f+1,l,p,g+1,h1,h2=>by
  simp only[lN];by_cases hp:p<l.length
  ·have:=eD hp;rw[if_pos hp,if_pos hp,wY f l (jb l p) g (by omega) (by omega)]
  ·rw[if_neg hp,if_neg hp]
def fT (l:List UInt8)(p:Nat):wX:=lN (l.length-p) l p
theorem zS {l:List UInt8}{p:Nat}(h:¬p<l.length):fT l p=.ok [ql l.length]:=by
 unfold fT;rw[show l.length-p=0 by omega];rfl
theorem o8 {l:List UInt8}{p:Nat}(h:p<l.length):fT l p=if kz (l.getD p 0) || pK (l.getD p 0) then fT l (jb l p)
   else if cB (sub l p (jb l p))=0 then .bad p
   else (fT l (jb l p)).pre [tZ l p (jb l p)]:=by
 have hb:=eD h;unfold fT;obtain⟨m,hm⟩:∃m,l.length-p=m+1:=⟨l.length-p-1,by omega⟩;rw[hm];simp only[lN];rw[if_pos h,wY m l (jb l p) (l.length-jb l p) (by omega) (by omega)]
theorem OX:(Tryz.prog.info? 105).map (λi=>(i.zero,i.size,i.bytes))=some (some (.agg #[.int .i64 0,.int .i64 0,.int .i64 0,.string ⟨#[]⟩]),4,40):=by kernel_rfl
def yD (l:List UInt8)(w:World)(e:Ending)(w':World):Prop:=
 Below w.heap.size w w'/\match fT l 0 with
  | .ok ts=>∃A c,e=.returned (.tuple #[.slice A ts.length c,.int .i64 0,.int .i64 0])/\mg w' A ts/\(∀a,A=some a->w.heap.size<=a.block)/\w'.ownsRow w.heap.size 105 4 (.slice A ts.length c) ts.length (BF ts)
  | .bad p=>e=.returned (.tuple #[.slice none 0 0,.int .i64 (p:Int),.int .i64 2])
theorem Ld {l:List UInt8}{w w':World}{p:Nat}(hb:Below w.heap.size w w')(h:fT l 0=.bad p):yD l w (.returned (.tuple #[.slice none 0 0,.int .i64 (p:Int),.int .i64 2])) w':=by
 refine⟨hb,?_⟩;rw[h]
theorem OY {l:List UInt8}{w w':World}{ts:List Tok}{v:Value}(hb:Below w.heap.size w w')(h:fT l 0=.ok ts)(ho:w'.ownsRow w.heap.size 105 4 v ts.length (BF ts)):yD l w (.returned (.tuple #[v,.int .i64 0,.int .i64 0])) w':=by
 obtain⟨A,c,rfl,hT,hA⟩:=He ho;refine⟨hb,?_⟩;rw[h];exact⟨A,c,rfl,hT,hA,ho⟩
def Te (q:Nat)(w:World)(e:Ending)(w':World):Prop:=e=.returned (.int .i64 (q:Int))/\Below w.heap.size w w'
theorem Le (s:ByteArray)(p q:Nat):(s.extract p q).data.toList=sub s.data.toList p q:=G6 s p q
def ou (l:List UInt8)(p:Nat)(acc:List Tok):Prop:=fT l 0=(fT l p).pre acc/\acc.length<=p
theorem wZ {l:List UInt8}{p:Nat}{acc:List Tok}(h:ou l p acc)(hp:p<l.length)(hb:(kz (l.getD p 0) || pK (l.getD p 0))=true):ou l (jb l p) acc:=by
 obtain⟨h1,h2⟩:=h;have:=eD hp;refine⟨?_,by omega⟩;rw[h1,o8 hp,if_pos hb]
theorem Lf {l:List UInt8}{p:Nat}{acc:List Tok}(h:ou l p acc)(hp:p<l.length)(hb:(kz (l.getD p 0) || pK (l.getD p 0))=false)(ht:cB (sub l p (jb l p))=0):fT l 0=.bad p:=by
 rw[h.1,o8 hp,hb,ht];rfl
theorem Lg {l:List UInt8}{p:Nat}{acc:List Tok}(h:ou l p acc)(hp:p<l.length)(hb:(kz (l.getD p 0) || pK (l.getD p 0))=false)(ht:cB (sub l p (jb l p))≠0):ou l (jb l p) (acc++[tZ l p (jb l p)]):=by
 have hB:=eD hp;refine⟨?_,by have:=h.2;simp;omega⟩;rw[h.1,o8 hp,hb,if_neg (by simp),if_neg ht,wX.pre_pre]
theorem Lh {l:List UInt8}{p:Nat}{acc:List Tok}(h:ou l p acc)(hp:¬p<l.length):fT l 0=.ok (acc++[ql l.length]):=by
 rw[h.1,zS hp];rfl
theorem Li (s:ByteArray)(w:World)(hE:mX w)(hs:s.size<=20000):Calls Tryz.prog 99 #[.string s] w (yD s.data.toList w):=by
 obtain⟨i0,hi,hz0,hz1,hz2⟩:=info_parts OX;have HE:=hid hE;have HL:=hid (show s.data.toList.length=s.size by simp);clear hE;have hsz:¬(20000:Int)<(s.size:Int):=by omega
 go_enter Tryz.func99,Tryz.ntmps99
 go_wp2_with fail
 go_loopw [5,6] (λv i wr=>∃(p:Nat) (acc:List Tok),p<=s.size/\i=.int .i64 (p:Int)/\wr.ownsRow w.heap.size 105 4 v acc.length (BF acc)/\Below w.heap.size w wr/\ou s.data.toList p acc) (λ_ i _=>s.size-(intOf i).toNat)
 case atStart=>exact⟨0,[],Nat.zero_le _,rfl,World.ownsRow_nil _ _ _ _,Below.refl _ _,(wX.pre_nil _).symm,by simp⟩
 case round=>
  obtain⟨p,acc,hp,rfl,hown,hb,hI⟩:=hrel;have hEr:=HE.out.below hb;by_cases hlt:p<s.size
  ·have hlz:(p:Int)<(s.size:Int):=by omega
   have HG:=hid (oq s p hlt);have hpl:p<s.data.toList.length:=by rw[HL.out];exact hlt
   obtain⟨q,hq⟩:∃q,q=jb s.data.toList p:=⟨_,rfl⟩;have hq1:p+1<=q:=by rw[hq];exact(eD hpl).1
   have hq2:q<=s.size:=by rw[hq,<- HL.out];exact(eD hpl).2
   have hP:∀w',Calls Tryz.prog 159 #[.string s,.int .i64 (p:Int)] w' (Te q w'):=λw'=>by rw[hq];exact Ew s p w' hlt (by omega)
   have HP:=hid hP;have HQ:=hid hq;clear hP hq hpl;cases h1:kz s[p]
   ·cases h2:pK s[p]
    ·obtain⟨x,hx⟩:∃x,x=s.extract p q:=⟨_,rfl⟩;have hsl:∀w',(Instr.slice 9 (.string s) (some (.int .i64 (p:Int))) (some (.int .i64 (q:Int))) none).run Tryz.prog w' = .ok (.string x) w':=by
      rw[hx];exact wW s p q (q:Int) rfl (by omega) hq2
     have HX:=hid (show x.data.toList=sub s.data.toList p q by rw[hx];exact Le s p q);have hxs:x.size<=281474976710656:=by
      have:x.data.toList.length<=s.size:=by rw[HX.out];unfold sub;simp;omega
      simp at this;omega
     clear hx;go_wp2_with (first|(go_at_call 159;refine(HP.out _).mono ?_;rintro e w1 ⟨rfl,hb1⟩) |(go_at_call 160;refine(iU _ _).mono ?_;rintro e w' ⟨rfl,rfl⟩) |(go_at_call 161;refine(gJ _ _).mono ?_;rintro e w' ⟨rfl,rfl⟩) |(go_at_call 162;refine(za x p _ (hEr.below hb1) hxs).mono ?_));rintro e w2 ⟨ht,hb2⟩;rcases ht with⟨hk,rfl⟩ |⟨hk,rfl⟩
     ·have HK:=hid hk;clear hk;go_wp2;refine bodyPost_ret (v :=.tuple #[.slice none 0 0,.int .i64 (p:Int),.int .i64 2]) (by simp[results,Tryz.results99,go_sem]) rfl (Ld ((bt (bt hb hb1) hb2).alloc (by have:=(bt (bt hb hb1) hb2).size;omega) _) (Lf hI (by rw[HL.out];exact hlt) (by rw[HG.out,h1,h2];rfl) ?_));rw[<- HQ.out,<- HX.out];exact HK.out
     ·have HK:=hid hk;clear hk;have hown2:=own_below (own_below hown hb1) hb2;have hbb:=bt (bt hb hb1) hb2;have hal:acc.length<=20000:=by have:=hI.2;omega
      have HT:=hid (show AU (tZ s.data.toList p q)=[.int .i64 (cB x.data.toList:Int),.int .i64 (jA x.data.toList),.int .i64 (p:Int),.string x]by unfold AU tZ;rw[<- HX.out,Q9]);have hI2:ou s.data.toList q (acc++[tZ s.data.toList p q]):=by
       rw[HQ.out];exact Lg hI (by rw[HL.out];exact hlt) (by rw[HG.out,h1,h2];rfl) (by rw[<- HQ.out,<- HX.out];exact HK.out)
      clear HP HX hsl hb1 hb2 hown hb hI hEr;generalize cB x.data.toList=kk at *
      generalize jA x.data.toList=nn at *
      go_wp2_with (first
       |(at_builtin;refine wpList_append_own _ rfl _ _ 60 rfl w.heap.size 105 i0 (.agg #[.int .i64 0,.int .i64 0,.int .i64 0,.string ⟨#[]⟩]) 4 40 Tryz.underlying60 hi hz0 hz1 hz2 rfl (by decide) _ _ _ rfl ((hown2.alloc _).alloc _) ⟨w2.heap.size+1,0,none⟩ 1 1 [.int .i64 (kk:Int),.int .i64 nn,.int .i64 (p:Int),.string x] rfl rfl ?c1 ?c2 ?c3 ?c4 ?c5 ?_))
      case c1=>
       intro j v hj
       match j,hj with
       |0,hj=>simp at hj;subst hj;simp[Addr.add]
       |1,hj=>simp at hj;subst hj;simp[Addr.add]
       |2,hj=>simp at hj;subst hj;simp[Addr.add]
       |3,hj=>simp at hj;subst hj;simp[Addr.add]
      case c2=>intro v hv;simp at hv;rcases hv with rfl |rfl |rfl |rfl<;>rfl
      case c3=>unfold maxLen;omega
      case c4=>omega
      case c5=>have:=hbb.size;simp;omega
      intro v' w4 hown4 hgrow4 _;have hb4:Below w.heap.size w w4:=((hbb.alloc hbb.size _).alloc (by have:=hbb.size;simp;omega) _).grown hgrow4 (by have:=hbb.size;simp;omega) (λq hq=>(hown2.lt q hq).1);have hown5:w4.ownsRow w.heap.size 105 4 v' (acc++[tZ s.data.toList p q]).length (BF (acc++[tZ s.data.toList p q])):=by
       rw[De,List.length_append,show BF [tZ s.data.toList p q]=AU (tZ s.data.toList p q)from rfl,HT.out];exact hown4
      clear hown4 hgrow4 hown2 hbb HT;go_wp2
      go_roundw
      case rel=>exact⟨q,_,hq2,rfl,hown5,hb4,hI2⟩
      case measure=>simp[intOf];omega
    ·go_wp2_with (first|(go_at_call 159;refine(HP.out _).mono ?_;rintro e w1 ⟨rfl,hb1⟩) |(go_at_call 160;refine(iU _ _).mono ?_;rintro e w' ⟨rfl,rfl⟩) |(go_at_call 161;refine(gJ _ _).mono ?_;rintro e w' ⟨rfl,rfl⟩))
     go_roundw
     case rel=>exact⟨q,acc,hq2,rfl,own_below hown hb1,bt hb hb1,by rw[HQ.out];exact wZ hI (by rw[HL.out];exact hlt) (by rw[HG.out,h2];simp)⟩
     case measure=>simp[intOf];omega
   ·go_wp2_with (first|(go_at_call 159;refine(HP.out _).mono ?_;rintro e w1 ⟨rfl,hb1⟩) |(go_at_call 160;refine(iU _ _).mono ?_;rintro e w' ⟨rfl,rfl⟩) |(go_at_call 161;refine(gJ _ _).mono ?_;rintro e w' ⟨rfl,rfl⟩))
    go_roundw
    case rel=>exact⟨q,acc,hq2,rfl,own_below hown hb1,bt hb hb1,by rw[HQ.out];exact wZ hI (by rw[HL.out];exact hlt) (by rw[HG.out,h1];simp)⟩
    case measure=>simp[intOf];omega
  ·have hlz:¬(p:Int)<(s.size:Int):=by omega
   have hR:=Lh hI (by rw[HL.out];exact hlt);have hal:acc.length<=20000:=by have:=hI.2;omega
   have HT:=hid (show AU (ql s.data.toList.length)=[.int .i64 5,.int .i64 0,.int .i64 (s.size:Int),.string ⟨#[]⟩]by unfold AU ql;rw[HL.out];rfl);have HR:=hid hR;clear hR hI hEr;go_wp2_with (first
    |(at_builtin;refine wpList_append_own _ rfl _ _ 60 rfl w.heap.size 105 i0 (.agg #[.int .i64 0,.int .i64 0,.int .i64 0,.string ⟨#[]⟩]) 4 40 Tryz.underlying60 hi hz0 hz1 hz2 rfl (by decide) _ _ _ rfl (hown.alloc _) ⟨wr.heap.size,0,none⟩ 1 1 [.int .i64 5,.int .i64 0,.int .i64 (s.size:Int),.string ⟨#[]⟩] rfl rfl ?d1 ?d2 ?d3 ?d4 ?d5 ?_))
   case d2=>exact⟨rfl,rfl,rfl,rfl⟩
   case d3=>unfold maxLen;omega
   case d4=>omega
   case d5=>have:=hb.size;simp;omega
   intro v' w4 hown4 hgrow4 _;have hb4:Below w.heap.size w w4:=(hb.alloc hb.size _).grown hgrow4 (by have:=hb.size;simp;omega) (λq hq=>(hown.lt q hq).1);have hown5:w4.ownsRow w.heap.size 105 4 v' (acc++[ql s.data.toList.length]).length (BF (acc++[ql s.data.toList.length])):=by
    rw[De,List.length_append,show BF [ql s.data.toList.length]=AU (ql s.data.toList.length)from rfl,HT.out];exact hown4
   clear hown4 hgrow4 hown hb HT;go_wp2;exact bodyPost_ret (v :=.tuple #[v',.int .i64 0,.int .i64 0]) (by simp[results,Tryz.results99,go_sem]) rfl (OY hb4 HR.out hown5)
end Tk
section
open Tr (Bx aa bt au aP ax aA)
def um (t:Tk.Tok):Tok:=⟨t.k,t.n,t.p,t.s⟩
theorem Lj (l:List UInt8):Tk.cB l<=4:=by
 unfold Tk.cB;split
 ·exact Nat.le_refl _
 split
 ·decide
 split
 ·decide
 split
 ·decide
 ·decide
theorem sQ:∀(f:Nat) (l:List UInt8) (p:Nat) (ts:List Tk.Tok),Tk.lN f l p=.ok ts->∃ms:List Tk.Tok,ts=ms++[Tk.ql l.length]/\ms.length<=f/\∀t ∈ ms,t.k=Tk.cB t.s/\t.k≠0/\t.s≠[]
 |0,l,p,ts,h=>by
  simp only[Tk.lN]at h;injection h with h
  exact⟨[],by rw[<- h];rfl,Nat.le_refl _,λt ht=>by cases ht⟩
 |f+1,l,p,ts,h=>by
  simp only[Tk.lN]at h;split at h
  case isFalse=>
   injection h with h
   exact⟨[],by rw[<- h];rfl,Nat.zero_le _,λt ht=>by cases ht⟩
  case isTrue hp=>
   split at h
   ·obtain⟨ms,a,b,c⟩:=sQ f l _ ts h;exact⟨ms,a,Nat.le_succ_of_le b,c⟩
   split at h
   ·cases h
   ·rename_i h0;cases h1:Tk.lN f l (Tk.jb l p) with
    |bad q=>rw[h1]at h;cases h
    |ok us=>
     rw[h1]at h;obtain⟨ms,a,b,c⟩:=sQ f l _ us h1;simp only[Tk.wX.pre]at h;injection h with h
     refine⟨Tk.tZ l p (Tk.jb l p) :: ms,by rw[<- h,a];rfl,by rw[List.length_cons];omega,λt ht =>?_⟩;rcases List.mem_cons.1 ht with rfl |ht
     ·refine⟨rfl,h0,λe =>?_⟩;have e:Tk.sub l p (Tk.jb l p)=[]:=e;have e2:=congrArg List.length e;have hb:=Tk.eD hp;simp[Tk.sub]at e2;omega
     ·exact c t ht
theorem zU {l:List UInt8}{ts:List Tk.Tok}(h:Tk.fT l 0=.ok ts):∃ms:List Tk.Tok,ts=ms++[Tk.ql l.length]/\ms.length<=l.length/\∀t ∈ ms,t.k=Tk.cB t.s/\t.k≠0/\t.s≠[]:=by
 obtain⟨ms,a,b,c⟩:=sQ (l.length-0) l 0 ts h;exact⟨ms,a,by omega,c⟩
theorem Hf {ms:List Tk.Tok}{n:Nat}:(ms++[Tk.ql n]).map um=ms.map um++[⟨5,0,n,[]⟩]:=by rw[List.map_append];rfl
theorem w_ {l:List UInt8}{ts:List Tk.Tok}(h:Tk.fT l 0=.ok ts):p9 (ts.map um):=by
 obtain⟨ms,rfl,hl,hm⟩:=zU h;rw[Hf];have hlen:(ms.map um++[(⟨5,0,l.length,[]⟩:Tok)]).length=ms.length+1:=by rw[List.length_append,List.length_map];rfl
 refine⟨by rw[hlen];omega,λi hi h1 =>?_,λi hi h1 =>?_,λhi =>?_,λhi =>?_⟩
 ·rw[hlen]at h1;rw[List.getElem_append_left (by rw[List.length_map];omega),List.getElem_map];exact(hm _ (List.getElem_mem _)).2.2
 ·rw[hlen]at h1;rw[List.getElem_append_left (by rw[List.length_map];omega),List.getElem_map];show ms[i].k≠5;have a:=hm _ (List.getElem_mem (show i<ms.length by omega));have b:=Lj ms[i].s;rw[a.1];omega
 ·rw[List.getElem_append_right (by rw[hlen,List.length_map];omega)];simp
 ·rw[List.getElem_append_right (by rw[hlen,List.length_map];omega)];simp
theorem OZ {l:List UInt8}{ts:List Tk.Tok}(h:Tk.fT l 0=.ok ts):ts.length<=l.length+1:=by
 obtain⟨ms,rfl,hl,_⟩:=zU h;rw[List.length_append];show ms.length+1<=_;omega
theorem Ll {w:World}{A:Option Addr}{ts:List Tk.Tok}(h:Tk.mg w A ts):mg w A (ts.map um):=λh0=>by
 obtain⟨b,off,e,hl,hc⟩:=h (by rwa [List.length_map]at h0);refine⟨b,off,e,hl,λj hj i hi =>?_⟩;rw[hc j (by rwa [List.length_map]at hj) i hi,List.getElem_map];rfl
def df (x:Nd):Tr.Nd:=⟨x.kd,x.n,x.pl,bs x.tx,x.ks⟩
theorem Dg {X:Nat->Prop}{w:World}{K:Option Addr}{ks:List Int}(h:Kd w X K ks):Tr.Ints w K ks:=λh0=>by
 obtain⟨b,cs,e,hb,hc,_⟩:=h h0;refine⟨b,0,e,(Array.getElem?_eq_some_iff.1 hb).1,λj hj =>?_⟩;rw[Nat.zero_add,cell_of_row w b j cs 3 (0,0) hb];exact hc j hj
theorem O0 {X:Nat->Prop}{w:World}{base:Nat}{V:Value}{nd:List Nd}(h:iI w X base V nd):∃A c,V=.slice A nd.length c/\Tr.eH w A (nd.map df)/\∀a,A=some a->base<=a.block:=by
 obtain⟨xs,hown,hcs⟩:=h;have hcell:=λ(b:Nat) (q:V.ownBlock=some b)=>hown.cells (g:=b) q
 rcases hown.2 with⟨e1,e2⟩ |⟨b,cap,cur,e1,e2,e3,_⟩
 ·refine⟨none,0,by rw[e1,e2],λh0 =>?_,λa e=>(by cases e)⟩;rw[List.length_map]at h0;omega
 ·refine⟨_,cap,e1,λh0=>⟨b,0,rfl,(Array.getElem?_eq_some_iff.1 e3).1,λj hj =>?_⟩,λa e=>by injection e with e;subst e;exact e2⟩;rw[List.length_map]at hj;obtain⟨K,c,e,hk,_⟩:=hcs j hj;have hc:=hcell b (by rw[e1];rfl);have get:∀i u,i<5->([.int .i64 nd[j].kd,.int .i64 nd[j].n,.int .i64 nd[j].pl,.string (bs nd[j].tx),.slice K nd[j].ks.length c]:List Value)[i]?=some u->w.cell? ⟨b,0+j*5+i,none⟩=some u:=λi u hi hu=>by
   rw[<- e,List.getElem?_take,if_pos hi,List.getElem?_drop]at hu;have:=hc _ _ hu;rw[Nat.zero_add]
   rwa [show(⟨b,0,none⟩:Addr).add (j*5+i)=⟨b,j*5+i,none⟩by simp[Addr.add];omega]at this
  simp only[List.getElem_map];refine⟨K,c,?_,get 1 _ (by decide) rfl,get 2 _ (by decide) rfl,get 3 _ (by decide) rfl,get 4 _ (by decide) rfl,Dg hk⟩;have:=get 0 _ (by decide) rfl
  rwa [Nat.add_zero]at this
theorem yE {w:World}(A:Option Addr)(c n:Nat)(l:List Tr.Nd)(r:Int)(hN:Tr.eH w A l)(hn:n=l.length)(hk:∀x ∈ l,x.ks.length<=l.length):Calls Tryz.prog 101 #[.agg #[.slice A n c,.int .i64 r]] w (bP (.int .i64 (if 4000<n then 8 else if 40<Tr.dpt l r then 6 else 0)) w):=by
 have hb:Below w.heap.size w (w.alloc (.cells #[.slice A n c,.int .i64 r] 25)):=aa _ _;by_cases h4:4000<n
 ·rw[if_pos h4];have d:((4000:Int)<(n:Int)):=by omega
  clear hN hn hk h4;go_enter Tryz.func101,Tryz.ntmps101
  go_wp2
  go_ret
  exact⟨rfl,hb⟩
 ·rw[if_neg h4];have d:¬((4000:Int)<(n:Int)):=by omega
  have HD:=hid (Tr.sH A c n l r _ (hN.below hb) hn (λx hx=>by have:=hk x hx;omega));generalize Tr.dpt l r=dd at *
  by_cases h5:40<dd
  ·rw[if_pos h5];have d5:((40:Int)<(dd:Int)):=by omega
   clear hN hn hk h4 h5;go_enter Tryz.func101,Tryz.ntmps101
   go_wp2_with (go_at_call 31;refine HD.out.mono ?_;rintro e w1 ⟨rfl,hb1⟩)
   go_ret
   exact⟨rfl,bt hb hb1⟩
  ·rw[if_neg h5];have d5:¬((40:Int)<(dd:Int)):=by omega
   clear hN hn hk h4 h5;go_enter Tryz.func101,Tryz.ntmps101
   go_wp2_with (go_at_call 31;refine HD.out.mono ?_;rintro e w1 ⟨rfl,hb1⟩)
   go_ret
   exact⟨rfl,bt hb hb1⟩
end
end Go.Proofs.YteecfjhjllajlaaGreatDoor
