/- PROVED: Bq Br Bs. No more condition. -/
import Derived.Test.YteecfjhjllajlaaGreatDoorM32
namespace Go.Proofs.YteecfjhjllajlaaGreatDoor
namespace Tk
section
open Go Go.RowKit
def sN (acc:Nat)(l:List UInt8):Nat:=l.foldl (λa c=>a*10+(c.toNat-48)) acc
def zZ (l:List UInt8):Bool:=l.all jW
theorem Mw {c:UInt8}(h:jW c=true):48<=c.toNat/\c.toNat<=57:=by unfold jW at h;simp at h;omega
theorem wQ {c:UInt8}{r:List UInt8}:zZ (c :: r)=(jW c&&zZ r):=rfl
theorem wR (acc:Nat)(c:UInt8)(r:List UInt8):sN acc (c :: r)=sN (acc*10+(c.toNat-48)) r:=by unfold sN;rw[List.foldl_cons]
theorem QN (n:Nat):10 ^ (n+1)=10*10 ^ n:=by rw[Nat.pow_succ,Nat.mul_comm]
theorem CR:∀(l:List UInt8) (acc:Nat),acc*10 ^ l.length<=sN acc l
 | [],acc=>by show acc*10 ^ 0<=acc;rw[Nat.pow_zero,Nat.mul_one];exact Nat.le_refl _
 |c :: r,acc=>by
  have ih:=CR r (acc*10+(c.toNat-48));rw[wR,List.length_cons,QN,<- Nat.mul_assoc];exact Nat.le_trans (Nat.mul_le_mul_right _ (Nat.le_add_right _ _)) ih
theorem rP (M:Nat)(hM:M<=18446744073709551615):∀(l:List UInt8) (acc:Nat),acc<=M->zZ l=true->Lib.parseUintM M acc l=if sN acc l<=M then .ok (sN acc l) else .range
 | [],acc,h,_=>by rw[show sN acc []=acc from rfl,if_pos h];rfl
 |c :: r,acc,h,hd=>by
  rw[wQ,Bool.and_eq_true]at hd;have hc:=Mw hd.1;have hg:=CR r (acc*10+(c.toNat-48));have h1:0<10 ^ r.length:=Nat.pos_of_ne_zero (by simp);have h2:acc*10+(c.toNat-48)<=sN (acc*10+(c.toNat-48)) r:=Nat.le_trans (Nat.le_mul_of_pos_right _ h1) hg;rw[wR];simp only[Lib.parseUintM];rw[if_pos hc];by_cases o1:1844674407370955162<=acc
  ·rw[if_pos o1,if_neg (by omega)]
  ·rw[if_neg o1];by_cases o2:M<acc*10+(c.toNat-48)
   ·rw[if_pos o2,if_neg (by omega)]
   ·rw[if_neg o2,rP M hM r _ (by omega) hd.2]
theorem En (acc:Nat)(l:List UInt8)(c:UInt8):sN acc (l++[c])=sN acc l*10+(c.toNat-48):=by unfold sN;rw[List.foldl_append];rfl
theorem tX {k:Nat}(h:k<10):(UInt8.ofNat (48+k)).toNat=48+k:=by rw[UInt8.toNat_ofNat'];omega
theorem QO {k:Nat}(h:k<10):jW (UInt8.ofNat (48+k))=true:=by unfold jW;rw[tX h];simp;omega
theorem CS:∀u:Nat,zZ (Lib.decDigits u)=true:=by
 intro u;induction u using Nat.strongRecOn with
 |_ u ih=>
  rw[Lib.decDigits];split
  ·rename_i h;unfold zZ;rw[List.all_cons,QO h];rfl
  ·have h2:=ih (u / 10) (by omega);unfold zZ at h2 |-;rw[List.all_append,h2,List.all_cons,QO (by omega)];rfl
theorem LH:∀u:Nat,sN 0 (Lib.decDigits u)=u:=by
 intro u;induction u using Nat.strongRecOn with
 |_ u ih=>
  rw[Lib.decDigits];split
  ·rename_i h;unfold sN;rw[List.foldl_cons,List.foldl_nil,tX h];omega
  ·rw[En,ih (u / 10) (by omega),tX (by omega)];omega
theorem Bj (u:Nat):Lib.decDigits u≠[]:=by
 rw[Lib.decDigits];split<;>simp
theorem IL:∀u:Nat,1<=u->((Lib.decDigits u).headD 0).toNat≠48:=by
 intro u;induction u using Nat.strongRecOn with
 |_ u ih=>
  intro hu;rw[Lib.decDigits];split
  ·rename_i h;show(UInt8.ofNat (48+u)).toNat≠48;rw[tX h];omega
  ·have h2:=ih (u / 10) (by omega) (by omega);have h3:=Bj (u / 10);revert h2 h3;cases Lib.decDigits (u / 10) with
   |nil=>intro _ h3;exact absurd rfl h3
   |cons c r=>intro h2 _;exact h2
theorem Eo {u:Nat}(h:1<(Lib.decDigits u).length):1<=u:=by
 rcases Nat.eq_zero_or_pos u with e |e
 ·rw[e,Lib.decDigits]at h;simp at h
 ·exact e
theorem Ep {l:List UInt8}(h:jW (l.headD 0)=true):j3 l=false:=by
 cases e:j3 l with
 |false=>rfl
 |true=>
  exfalso;unfold j3 at e;simp only[Bool.or_eq_true,beq_iff_eq]at e;rcases e with((((((((((((((((((e |e) |e) |e) |e) |e) |e) |e) |e) |e) |e) |e) |e) |e) |e) |e) |e) |e) |e) |e<;>rw[e]at h<;>revert h<;>decide
theorem Er {l:List UInt8}(h:jW (l.headD 0)=true):dJ l=false:=by
 cases e:dJ l with
 |false=>rfl
 |true=>
  exfalso;unfold dJ at e;simp only[Bool.or_eq_true,beq_iff_eq]at e;rcases e with((((((((((((((((((((((e |e) |e) |e) |e) |e) |e) |e) |e) |e) |e) |e) |e) |e) |e) |e) |e) |e) |e) |e) |e) |e) |e) |e<;>rw[e]at h<;>revert h<;>decide
theorem LJ {n:Int}(h0:0<=n)(h1:n<=9223372036854775807):dh (Lib.itoa n)=2/\jT (Lib.itoa n)=n:=by
 have e:Lib.itoa n=Lib.decDigits n.toNat:=by unfold Lib.itoa;rw[if_neg (by omega)]
 rw[e];have hne:=Bj n.toNat;have hall:=CS n.toNat;have hv:=LH n.toNat;have hz:¬(1<(Lib.decDigits n.toNat).length/\((Lib.decDigits n.toNat).headD 0).toNat=48):=λh=>IL _ (Eo h.1) h.2
 have hd:jW ((Lib.decDigits n.toNat).headD 0)=true:=by
  revert hall hne;cases Lib.decDigits n.toNat with
  |nil=>intro hne _;exact absurd rfl hne
  |cons c r=>intro _ hall;rw[wQ,Bool.and_eq_true]at hall;exact hall.1
 have hnum:pQ (Lib.decDigits n.toNat)=some n:=by
  unfold pQ;rw[if_neg hz];have hp:Lib.parseIntB 64 (Lib.decDigits n.toNat)=.ok n:=by
   revert hd hall hv hne;cases Lib.decDigits n.toNat with
   |nil=>intro hne _ _ _;exact absurd rfl hne
   |cons c r=>
    intro _ hall hv hd;have hc:=Mw (show jW c=true from hd);unfold Lib.parseIntB;simp only;rw[if_neg (by omega)];unfold Lib.parseUintB;rw[if_neg (by simp),rP _ (by decide) _ 0 (Nat.zero_le _) hall,hv,if_pos (by have:(2:Nat) ^ 64-1=18446744073709551615:=(by decide);omega)];simp only;rw[if_neg (λh=>by have:(2:Nat) ^ (64-1)=9223372036854775808:=(by decide);omega),if_neg (λh=>by omega),if_neg (by omega)];congr 1;omega
  rw[hp]
 have hid:ig (Lib.decDigits n.toNat)=false:=by unfold ig;rw[hd];simp
 have hok:qE (Lib.decDigits n.toNat)=true:=by unfold qE;rw[hnum];rfl
 have hk:dh (Lib.decDigits n.toNat)=2:=by unfold dh;rw[Ep hd,hid,Er hd,hok];rfl
 refine⟨hk,?_⟩;unfold jT;rw[if_pos hk];unfold vI;rw[hnum];rfl
end
end Tk
section
open Go
open Tr (nth dS aI eY bz kV iU iq il yG qz eP iT ig rR kD aJ wU rQ gI)
def SK (t:Tok):Nat × Int × List UInt8:=(t.k,t.n,t.s)
def Lx (x:List UInt8)(X:List Tok)(ok:List UInt8->Prop):Prop:=∀i rest,ok rest->Tk.I_ (Tk.kW i (x++rest))=(Tk.I_ (Tk.kW 0 rest)).map (X.map SK ++ ·)
def any:List UInt8->Prop:=λ_=>True
def tY (r:List UInt8):Prop:=(match r with| []=>true |c :: _ => !Tk.wdB c)=true
def OJ (d:UInt8)(r:List UInt8):Prop:=(match r with| []=>true |c :: _ => !(c==d))=true
theorem Lx.weak {x:List UInt8}{X:List Tok}{ok ok':List UInt8->Prop}(h:Lx x X ok)(k:∀r,ok' r->ok r):Lx x X ok':=λi rest hr=>h i rest (k rest hr)
theorem Lx.of {x x':List UInt8}{X X':List Tok}{ok:List UInt8->Prop}(h:Lx x X ok)(e:x'=x)(e2:X'=X):Lx x' X' ok:=by subst e e2;exact h
theorem Lx.app {x y:List UInt8}{X Y:List Tok}{ok1 ok2:List UInt8->Prop}(h:Lx x X ok1)(k:Lx y Y ok2)(q:∀r,ok2 r->ok1 (y++r)):Lx (x++y) (X++Y) ok2:=λi rest hr=>by
 rw[List.append_assoc,h i _ (q rest hr),k 0 rest hr,Option.map_map,List.map_append];congr 1;funext z
 show X.map SK++(Y.map SK++z)=_;rw[List.append_assoc]
theorem vB:Lx [] [] any:=λi rest _=>by
 rw[List.nil_append,Tk.kF _ i 0 _ (Nat.le_refl _)];cases Tk.I_ (Tk.kW 0 rest)<;>rfl
theorem Mx (c:UInt8)(hc:Tk.j_ c=true):Lx [c] [] any:=λi rest _=>by
 rw[List.cons_append,List.nil_append,Tk.rE hc,Tk.kF _ _ 0 _ (Nat.le_refl _)];cases Tk.I_ (Tk.kW 0 rest)<;>rfl
theorem vC {x:List UInt8}{t:Tok}{ok:List UInt8->Prop}(hpc:∀r,ok r->Tk.pc (x++r)=x)(c:UInt8)(x':List UInt8)(hx:x=c :: x')(h1:Tk.j_ c=false)(h2:Tk.o_ c=false)(hk:Tk.dh x=t.k)(hk0:t.k≠0)(hn:Tk.jT x=t.n)(hs:t.s=x):Lx x [t] ok:=λi rest hr=>by
 have h3:=hpc rest hr;have e2:x++rest=c :: (x'++rest):=by rw[hx];rfl
 rw[e2]at h3 |-;rw[Tk.rF h1 h2 (by rw[h3,hk];exact hk0),Tk.yw,h3];have e3:(c :: (x'++rest)).drop x.length=rest:=by rw[<- e2,List.drop_left]
 rw[e3,Tk.kF _ _ 0 _ (Nat.le_refl _)];have e4:Tk.strip (Tk.Hr i x)=SK t:=by unfold Tk.strip Tk.Hr SK;simp only[hk,hn,hs]
 rw[e4];rfl
theorem CU {q:UInt8->Bool}:∀ {x r:List UInt8},x.all q=true->(match r with| []=>true |c :: _ => !q c)=true->(x++r).takeWhile q=x
 | [],[],_,_=>rfl
 | [],c :: r,_,h=>by
  have:q c=false:=by simpa using h
  rw[List.nil_append,List.takeWhile_cons,this];rfl
 |c :: x,r,hx,h=>by
  rw[List.all_cons,Bool.and_eq_true]at hx;rw[List.cons_append,List.takeWhile_cons,hx.1];show c :: (x++r).takeWhile q=_;rw[CU hx.2 h]
theorem QP {c:UInt8}(h:Tk.wdB c=true):Tk.j_ c=false/\Tk.o_ c=false:=by
 unfold Tk.wdB Tk.jW at h;unfold Tk.j_ Tk.o_;simp only[Bool.or_eq_true,Bool.and_eq_true,decide_eq_true_eq,beq_iff_eq]at h;refine⟨?_,?_⟩
 ·simp only[Bool.or_eq_false_iff,beq_eq_false_iff_ne];omega
 ·simp only[beq_eq_false_iff_ne];omega
theorem yB {x:List UInt8}{t:Tok}(h0:x≠[])(hx:Tk.kg x=true)(hk:Tk.dh x=t.k)(hk0:t.k≠0)(hn:Tk.jT x=t.n)(hs:t.s=x):Lx x [t] tY:=by
 cases x with
 |nil=>exact absurd rfl h0
 |cons c x=>
  have hx2:=hx;unfold Tk.kg at hx2;rw[List.all_cons,Bool.and_eq_true]at hx2;obtain⟨h1,h2⟩:=QP hx2.1;refine vC (λr hr =>?_) c x rfl h1 h2 hk hk0 hn hs;rw[List.cons_append];simp only[Tk.pc,hx2.1,if_true];rw[CU hx2.2 hr]
theorem vD {x:List UInt8}(h:ig x=true):x≠[]/\Tk.kg x=true/\Tk.dh x=1/\Tk.jT x=0:=by
 have h2:Tk.ig x=true:=h;have h3:=h2;unfold Tk.ig at h3;simp only[Bool.and_eq_true,decide_eq_true_eq,Bool.not_eq_true']at h3;have hk:Tk.dh x=1:=by unfold Tk.dh;rw[h3.1.2,h2];rfl
 exact⟨λe=>by rw[e]at h3;simp at h3,h3.2,hk,by unfold Tk.jT;rw[hk];rfl⟩
theorem mG {x:List UInt8}(h:ig x=true):Lx x [jq x] tY:=by
 obtain⟨h1,h2,h3,h4⟩:=vD h;exact yB h1 h2 h3 (show(1:Nat)≠0 by decide) h4 rfl
theorem OL {x:List UInt8}(h:Tk.zZ x=true):Tk.kg x=true:=by
 unfold Tk.zZ at h;unfold Tk.kg;rw[List.all_eq_true]at h |-;intro c hc;have:=h c hc;unfold Tk.wdB;rw[this];simp
theorem OM {n:Int}(h0:0<=n)(h1:n<=9223372036854775807):Lx (Lib.itoa n) [Ry n] tY:=by
 obtain⟨h3,h4⟩:=Tk.LJ h0 h1;have e:Lib.itoa n=Lib.decDigits n.toNat:=by unfold Lib.itoa;rw[if_neg (by omega)]
 refine yB ?_ ?_ h3 (show(2:Nat)≠0 by decide) h4 rfl
 ·rw[e];exact Tk.Bj _
 ·rw[e];exact OL (Tk.CS _)
theorem vE (x:List UInt8)(h0:x≠[])(hx:Tk.kg x=true)(hk:Tk.dh x=4):Lx x [iP x] tY:=yB h0 hx hk (show(4:Nat)≠0 by decide) (by unfold Tk.jT;rw[hk];rfl) rfl
theorem OO {c:UInt8}{r:List UInt8}(hw:Tk.wdB c=false)(hr:∀d t,r=d :: t->Tk.dJ [c,d]=false):Tk.pc ([c]++r)=[c]:=by
 cases r with
 |nil=>simp[Tk.pc,hw]
 |cons d t=>
  have:=hr d t rfl;simp[Tk.pc,hw,this]
theorem CV (c:UInt8)(hw:Tk.wdB c=false)(h1:Tk.j_ c=false)(h2:Tk.o_ c=false)(hk:Tk.dh [c]=3){ok:List UInt8->Prop}(hr:∀r,ok r->∀d t,r=d :: t->Tk.dJ [c,d]=false):Lx [c] [bB [c]] ok:=
 vC (λr q=>OO hw (hr r q)) c [] rfl h1 h2 hk (show(3:Nat)≠0 by decide) (by unfold Tk.jT;rw[hk];rfl) rfl
theorem RZ {c:UInt8}(h:∀d:UInt8,d=61\/d=38\/d=124->Tk.dJ [c,d]=false):∀d,Tk.dJ [c,d]=false:=λd=>by
 cases e:Tk.dJ [c,d] with
 |false=>rfl
 |true=>
  have:=Tk.Ht e;rw[h d this]at e;cases e
theorem nA (c:UInt8)(hw:Tk.wdB c=false)(h1:Tk.j_ c=false)(h2:Tk.o_ c=false)(hk:Tk.dh [c]=3)(h:Tk.dJ [c,61]=false/\Tk.dJ [c,38]=false/\Tk.dJ [c,124]=false):Lx [c] [bB [c]] any:=
 CV c hw h1 h2 hk λ_ _ d _ _=>RZ (c:=c) (λd hd=>by
  rcases hd with e |e |e
  ·rw[e];exact h.1
  ·rw[e];exact h.2.1
  ·rw[e];exact h.2.2) d
theorem QQ:Lx [40] [bB [40]] any:=nA 40 (by decide) (by decide) (by decide) (by decide) (by decide)
theorem QR:Lx [41] [bB [41]] any:=nA 41 (by decide) (by decide) (by decide) (by decide) (by decide)
theorem QS:Lx [91] [bB [91]] any:=nA 91 (by decide) (by decide) (by decide) (by decide) (by decide)
theorem QT:Lx [93] [bB [93]] any:=nA 93 (by decide) (by decide) (by decide) (by decide) (by decide)
theorem QU:Lx [123] [bB [123]] any:=nA 123 (by decide) (by decide) (by decide) (by decide) (by decide)
theorem QV:Lx [125] [bB [125]] any:=nA 125 (by decide) (by decide) (by decide) (by decide) (by decide)
theorem RB:Lx [44] [bB [44]] any:=nA 44 (by decide) (by decide) (by decide) (by decide) (by decide)
theorem QW:Lx [59] [bB [59]] any:=nA 59 (by decide) (by decide) (by decide) (by decide) (by decide)
theorem RD:Lx [45] [bB [45]] any:=nA 45 (by decide) (by decide) (by decide) (by decide) (by decide)
theorem z8 {d c:UInt8}{t:List UInt8}(h:OJ d (c :: t)):c≠d:=λe=>by subst e;simp[OJ]at h
theorem RF:Lx [33] [bB [33]] (OJ 61):=CV 33 (by decide) (by decide) (by decide) (by decide) λr hr d t e=>by
 subst e;have hne:=z8 hr;cases e2:Tk.dJ [33,d] with
 |false=>rfl
 |true=>
  rcases Tk.Ht e2 with e3 |e3 |e3
  ·exact absurd e3 hne
  ·rw[e3]at e2;revert e2;decide
  ·rw[e3]at e2;revert e2;decide
theorem RG:Lx [38] [bB [38]] (OJ 38):=CV 38 (by decide) (by decide) (by decide) (by decide) λr hr d t e=>by
 subst e;have hne:=z8 hr;cases e2:Tk.dJ [38,d] with
 |false=>rfl
 |true=>
  rcases Tk.Ht e2 with e3 |e3 |e3
  ·rw[e3]at e2;revert e2;decide
  ·exact absurd e3 hne
  ·rw[e3]at e2;revert e2;decide
theorem qw:Lx [32] [] any:=Mx 32 (by decide)
theorem Bl:Lx [10] [] any:=Mx 10 (by decide)
theorem QX {x:List UInt8}(h:rR x=true):x ∈ Tk.Lp:=by
 unfold rR at h;simp only[Bool.or_eq_true,beq_iff_eq]at h;unfold Tk.Lp;simp only[List.mem_cons,List.not_mem_nil,or_false];rcases h with((((((((((((h |h) |h) |h) |h) |h) |h) |h) |h) |h) |h) |h) |h)<;>simp[h]
theorem OP:∀x ∈ Tk.Lp,∃c w',x=c :: w'/\Tk.j_ c=false/\Tk.o_ c=false/\(∀r,Tk.pc (x++32 :: r)=x)/\Tk.dh x=3/\Tk.jT x=0:=by
 intro x hx;simp only[Tk.Lp,List.mem_cons,List.not_mem_nil,or_false]at hx;rcases hx with rfl |rfl |rfl |rfl |rfl |rfl |rfl |rfl |rfl |rfl |rfl |rfl |rfl<;>exact⟨_,_,rfl,by decide,by decide,λr=>rfl,by decide,by decide⟩
theorem QY {x:List UInt8}(h:rR x=true):Lx ([32]++x++[32]) [bB x] any:=by
 obtain⟨c,w',e,h1,h2,h3,h4,h5⟩:=OP x (QX h);have hp:Lx x [bB x] (λr=>∃r',r=32 :: r'):=vC (λr ⟨r',e'⟩=>by rw[e'];exact h3 r') c w' e h1 h2 h4 (show(3:Nat)≠0 by decide) h5 rfl;exact((qw.app hp (λ_ _=>trivial)).app qw (λr _=>⟨r,rfl⟩)).of rfl rfl
theorem z_:Lx [32,61,32] [bB [61]] any:=by
 have hp:Lx [61] [bB [61]] (λr=>∃r',r=32 :: r'):=CV 61 (by decide) (by decide) (by decide) (by decide) λr hr d t e=>by
  obtain⟨r',e'⟩:=hr;rw[e']at e;injection e with e3 e4
  subst e3;decide
 exact((qw.app hp (λ_ _=>trivial)).app qw (λr _=>⟨r,rfl⟩)).of rfl rfl
theorem eH {c:UInt8}(h:Tk.wdB c=false)(t:List UInt8):tY (c :: t):=by unfold tY;simp[h]
theorem kT (x:List UInt8)(h0:x≠[])(hx:Tk.kg x=true)(hk:Tk.dh x=4):Lx (x++[32]) [iP x] any:=
 ((vE x h0 hx hk).app qw (λr _=>eH (by decide) r)).of rfl rfl
theorem IM {l:List Tr.Nd}(h:iU l=true)(hx:I9 l):∀(p:Nat),p<l.length->aI (ag l p).kd=true->∀f,p<f->(∃c t,bF l f p=c :: t/\c≠61)/\∃c t,r9 l (bF l f) p=c :: t/\c≠61:=by
 intro p;induction p using Nat.strongRecOn with
 |_ p ih=>
  intro hp he f hf;obtain⟨f,rfl⟩:∃f',f=f'+1:=⟨f-1,by omega⟩;have hid:ig (bu l p)=true->∃c t,bu l p=c :: t/\c≠61:=λhi=>by
   rcases ht:bu l p with _ |⟨c,t⟩
   ·rw[ht]at hi;exact absurd hi (by decide)
   ·refine⟨c,t,rfl,λe =>?_⟩;rw[ht,e]at hi;have h2:=(vD hi).2.1;unfold Tk.kg at h2;rw[List.all_cons,Bool.and_eq_true]at h2;exact absurd h2.1 (by decide)
  have h1:∃c t,bF l (f+1) p=c :: t/\c≠61:=by
   rw[nU];rcases gM he with e |e |e |e |e |e |e |e
   ·rw[if_pos e];have hd:=zX (hx.num p hp e).1;rcases ht:Lib.itoa (ag l p).n with _ |⟨c,t⟩
    ·rw[ht]at hd;cases hd
    ·refine⟨c,t,rfl,λe2 =>?_⟩;rw[ht,e2,show Iy (61 :: t)=false from rfl]at hd;cases hd
   ·rw[if_neg (by omega),if_pos e];cases(ag l p).n==1
    ·exact⟨102,_,rfl,by decide⟩
    ·exact⟨116,_,rfl,by decide⟩
   ·rw[if_neg (by omega),if_neg (by omega),if_pos e];exact hid (gG h hp (by omega))
   ·rw[if_neg (by omega),if_neg (by omega),if_neg (by omega),if_pos e];obtain⟨c,t,e2,h2⟩:=hid (gG h hp (by omega));exact⟨c,_,by rw[e2];rfl,h2⟩
   ·rw[if_neg (by omega),if_neg (by omega),if_neg (by omega),if_neg (by omega),if_pos e];exact⟨108,_,rfl,by decide⟩
   ·rw[if_neg (by omega),if_neg (by omega),if_neg (by omega),if_neg (by omega),if_neg (by omega),if_pos e];exact⟨38,_,rfl,by decide⟩
   ·rw[if_neg (by omega),if_neg (by omega),if_neg (by omega),if_neg (by omega),if_neg (by omega),if_neg (by omega),if_pos e];have htx:bu l p=[45]\/bu l p=[33]:=by
     have:=(bQ h hp).tx;rw[e]at this;simpa [iT]using this
    rcases htx with e2 |e2<;>rw[e2]
    ·exact⟨45,_,rfl,by decide⟩
    ·exact⟨33,_,rfl,by decide⟩
   ·rw[if_neg (by omega),if_neg (by omega),if_neg (by omega),if_neg (by omega),if_neg (by omega),if_neg (by omega),if_neg (by omega),if_pos e];obtain⟨k,j,hks,hlt,hlt2,hke,hje⟩:=hx.two p hp e;obtain⟨c,t,e2,h2⟩:=(ih k hlt (by omega) hke f (by omega)).2;rw[aV hks,e2];exact⟨c,_,rfl,h2⟩
  refine⟨h1,?_⟩;unfold r9;split
  ·exact⟨40,_,rfl,by decide⟩
  ·exact h1
theorem IP {d c:UInt8}{t:List UInt8}(h:c≠d):OJ d (c :: t):=by unfold OJ;simp[h]
theorem IQ {x:List UInt8}(h:ig x=true)(d:UInt8)(hd:Tk.wdB d=false)(r:List UInt8):OJ d (x++r):=by
 rcases x with _ |⟨c,t⟩
 ·exact absurd h (by decide)
 ·refine IP λe =>?_
  have h2:=(vD h).2.1;unfold Tk.kg at h2;rw[List.all_cons,Bool.and_eq_true,e,hd]at h2;cases h2.1
theorem OQ {l:List Tr.Nd}(h:iU l=true)(hx:I9 l):∀(p:Nat),p<l.length->aI (ag l p).kd=true->∀f,p<f->Lx (bF l f p) (fG l f p) tY/\Lx (r9 l (bF l f) p) (zS l (fG l f) p) tY:=by
 intro p;induction p using Nat.strongRecOn with
 |_ p ih=>
  intro hp he f hf;obtain⟨f,rfl⟩:∃f',f=f'+1:=⟨f-1,by omega⟩;have h1:Lx (bF l (f+1) p) (fG l (f+1) p) tY:=by
   rw[nU,oz];rcases gM he with e |e |e |e |e |e |e |e
   ·rw[if_pos e,if_pos e];have:=hx.num p hp e;exact OM this.1 this.2
   ·rw[if_neg (by omega),if_pos e,if_neg (by omega),if_pos e];have hn:(ag l p).n=0\/(ag l p).n=1:=by
     have:=(bQ h hp).num;rw[e]at this;simpa [eP]using this
    rcases hn with e2 |e2<;>rw[e2]
    ·exact vE jy (by decide) (by decide) (by decide)
    ·exact vE fK (by decide) (by decide) (by decide)
   ·rw[if_neg (by omega),if_neg (by omega),if_pos e,if_neg (by omega),if_neg (by omega),if_pos e];exact mG (gG h hp (by omega))
   ·rw[if_neg (by omega),if_neg (by omega),if_neg (by omega),if_pos e,if_neg (by omega),if_neg (by omega),if_neg (by omega),if_pos e];obtain⟨k,hks,hlt,hke⟩:=hx.one p hp (Or.inl e);rw[aV hks];have hk:=(ih k hlt (by omega) hke f (by omega)).1;exact((((mG (gG h hp (by omega))).app QS (λr _=>eH (by decide) r)).app hk (λ_ _=>trivial)).app QT (λr _=>eH (by decide) r)).weak (λ_ _=>trivial) |>.of rfl rfl
   ·rw[if_neg (by omega),if_neg (by omega),if_neg (by omega),if_neg (by omega),if_pos e,if_neg (by omega),if_neg (by omega),if_neg (by omega),if_neg (by omega),if_pos e];exact((kT um (by decide) (by decide) (by decide)).app (mG (gG h hp (by omega))) (λ_ _=>trivial)).of rfl rfl
   ·rw[if_neg (by omega),if_neg (by omega),if_neg (by omega),if_neg (by omega),if_neg (by omega),if_pos e,if_neg (by omega),if_neg (by omega),if_neg (by omega),if_neg (by omega),if_neg (by omega),if_pos e];exact(RG.app (mG (gG h hp (by omega))) (λr _=>IQ (gG h hp (by omega)) 38 (by decide) r)).of rfl rfl
   ·rw[if_neg (by omega),if_neg (by omega),if_neg (by omega),if_neg (by omega),if_neg (by omega),if_neg (by omega),if_pos e,if_neg (by omega),if_neg (by omega),if_neg (by omega),if_neg (by omega),if_neg (by omega),if_neg (by omega),if_pos e];obtain⟨k,hks,hlt,hke⟩:=hx.one p hp (Or.inr e);rw[aV hks];have hk:=(ih k hlt (by omega) hke f (by omega)).2;obtain⟨c,t,e3,h3⟩:=(IM h hx k (by omega) hke f (by omega)).2;have htx:bu l p=[45]\/bu l p=[33]:=by
     have:=(bQ h hp).tx;rw[e]at this;simpa [iT]using this
    rcases htx with e2 |e2<;>rw[e2]
    ·exact RD.app hk (λ_ _=>trivial)
    ·exact RF.app hk (λr _=>by rw[e3];exact IP h3)
   ·rw[if_neg (by omega),if_neg (by omega),if_neg (by omega),if_neg (by omega),if_neg (by omega),if_neg (by omega),if_neg (by omega),if_pos e,if_neg (by omega),if_neg (by omega),if_neg (by omega),if_neg (by omega),if_neg (by omega),if_neg (by omega),if_neg (by omega),if_pos e];obtain⟨k,j,hks,hlt,hlt2,hke,hje⟩:=hx.two p hp e;rw[aV hks,dX hks];have hk:=(ih k hlt (by omega) hke f (by omega)).2;have hj:=(ih j hlt2 (by omega) hje f (by omega)).2;have htx:rR (bu l p)=true:=by
     have:=(bQ h hp).tx;rw[e]at this;simpa [iT]using this
    exact((hk.app (QY htx) (λr _=>eH (by decide) _)).app hj (λ_ _=>trivial)).of (by simp only[List.append_assoc]) rfl
  refine⟨h1,?_⟩;unfold r9 zS;split
  ·exact(((QQ.app h1 (λ_ _=>trivial)).app QR (λr _=>eH (by decide) r)).weak (λ_ _=>trivial)).of rfl rfl
  ·exact h1
end
section
set_option maxHeartbeats 1000000
open Go
open Tr (nth dS aI eY bz kV iU iq il yG qz eP iT ig rR kD aJ wU rQ gI)
theorem qx:∀d,Lx (fH d) [] any
 |0=>vB
 |d+1=>((qw.app (qw.app (qx d) (λ_ _=>trivial)) (λ_ _=>trivial))).of rfl rfl
theorem MB {n:Int}(h1:1<=n)(h4:n<=4):Lx (qN n) [iP (qN n)] tY:=by
 have:n=1\/n=2\/n=3\/n=4:=by omega
 rcases this with e |e |e |e<;>rw[e]<;>exact vE _ (by decide) (by decide) (by decide)
theorem vF (r:List UInt8):tY (32 :: r):=eH (by decide) r
theorem Aa {l:List Tr.Nd}(h:iU l=true){p:Nat}(hp:p<l.length)(hk:(ag l p).kd=2\/(ag l p).kd=4\/(ag l p).kd=5):Lx (lS l p) (oC l p) tY:=by
 have hn:1<=(ag l p).n/\(ag l p).n<=4:=by
  have:=(bQ h hp).num;unfold eP at this;rw[if_pos (by omega)]at this;simpa using this
 exact(((mG (gG h hp (by omega))).app qw (λr _=>vF r)).app (MB hn.1 hn.2) (λ_ _=>trivial)).of rfl rfl
theorem IR {l:List Tr.Nd}(h:iU l=true)(d:Nat){p:Nat}(hp:p<l.length)(hk:(ag l p).kd=2\/(ag l p).kd=5):Lx (ja l d p) (oD l p) any:=
 (((((qx d).app (kT oZ (by decide) (by decide) (by decide)) (λ_ _=>trivial)).app (Aa h hp (by omega)) (λ_ _=>trivial)).app (QW.app Bl (λ_ _=>trivial)) (λr _=>eH (by decide) _))).of rfl rfl
theorem tZ {α:Type}{f:α->List UInt8}{g:α->List Tok}:∀ks:List α,(∀k ∈ ks,Lx (f k) (g k) any)->Lx (ks.map f).flatten (ks.map g).flatten any
 | [],_=>vB
 |k :: ks,h=>((h k List.mem_cons_self).app (tZ ks λj hj=>h j (List.mem_cons_of_mem _ hj)) (λ_ _=>trivial)).of rfl rfl
theorem CW {α:Type}{f:α->List UInt8}{g:α->List Tok}:∀(k:α) (ks:List α),(∀j ∈ k :: ks,Lx (f j) (g j) tY)->Lx (fu ((k :: ks).map f)) (zV ((k :: ks).map g)) tY
 |k,[],h=>(h k List.mem_cons_self).of rfl (by show g k++[]=_;rw[List.append_nil])
 |k,j :: ks,h=>by
  have h2:=CW j ks λi hi=>h i (List.mem_cons_of_mem _ hi)
  have h3:Lx [44,32] [bB [44]] any:=(RB.app qw (λ_ _=>trivial)).of rfl rfl;refine(((h k List.mem_cons_self).app h3 (λr _=>eH (by decide) _)).app h2 (λ_ _=>trivial)).of rfl ?_;show g k++(bB [44] :: g j++eD (ks.map g))=(g k++[bB [44]])++(g j++eD (ks.map g));simp only[List.append_assoc,List.cons_append,List.nil_append]
theorem CX {α:Type}{f:α->List UInt8}{g:α->List Tok}(ks:List α)(h:∀j ∈ ks,Lx (f j) (g j) tY):Lx (nE (ks.map f)) (qm (ks.map g)) any:=by
 have h1:Lx (fu (ks.map f)) (zV (ks.map g)) tY:=by
  cases ks with
  |nil=>exact vB.weak (λ_ _=>trivial)
  |cons k ks=>exact CW k ks h
 exact((QQ.app h1 (λ_ _=>trivial)).app QR (λr _=>eH (by decide) r)).of rfl rfl
theorem IU {l:List Tr.Nd}(h:iU l=true){k:Nat}(hk:k<l.length)(h18:(ag l k).kd=18\/(ag l k).kd=19):Lx (bu l k) [jq (bu l k)] tY:=mG (gG h hk (by omega))
theorem OT {l:List Tr.Nd}{b d:Nat->Nat}(h:lL l b d){p:Nat}(hp:p<l.length)(hk:dS (ag l p).kd=true)(F:Nat)(hF:l.length<=F):Lx (eG l F p) (zW l F p) tY:=by
 obtain⟨l7,l8,l9,l10,l11,l12,l13,l14,l15,l16,l17⟩:=IG l F p;have hex:∀k:Nat,k<p->aI (ag l k).kd=true->Lx (bF l F k) (fG l F k) tY:=λk h1 h2=>(OQ h.sh h.ok.ex k (by omega) h2 F (by omega)).1
 rcases mf hk with e |e |e |e |e |e |e |e |e |e |e
 ·obtain⟨k,hks,hlt,hke⟩:=wN h hp (by omega);rw[l7 e,aV hks];have et:eG l F p=bu l p++[32,61,32]++bF l F k:=by unfold eG;rw[e,aV hks];simp
  rw[et];exact(((mG (gG h.sh hp (by omega))).app z_ (λr _=>vF _)).app (hex k hlt hke) (λ_ _=>trivial)).of rfl rfl
 ·obtain⟨k,j,hks,hlt,hlt2,hke,hje⟩:=Mt h hp e;rw[l8 e,aV hks,dX hks];have et:eG l F p=bu l p++[91]++bF l F k++[93]++[32,61,32]++bF l F j:=by unfold eG;rw[e,aV hks,dX hks];simp
  rw[et];refine((((((mG (gG h.sh hp (by omega))).app QS (λr _=>eH (by decide) r)).app (hex k hlt hke) (λ_ _=>trivial)).app QT (λr _=>eH (by decide) r)).app z_ (λ_ _=>trivial)).app (hex j hlt2 hje) (λ_ _=>trivial)).of rfl ?_;simp only[List.append_assoc,List.cons_append,List.nil_append]
 ·obtain⟨k,hks,hlt,hke⟩:=Mv h hp e;rw[l9 e,aV hks];have et:eG l F p=bu l p++([32,61,32]++(BH++[32]))++bu l k:=by unfold eG;rw[e,aV hks];simp[BH]
  rw[et];exact(((mG (gG h.sh hp (by omega))).app (z_.app (kT BH (by decide) (by decide) (by decide)) (λ_ _=>trivial)) (λr _=>vF _)).app (IU h.sh (by omega) (by omega)) (λ_ _=>trivial)).of rfl rfl
 ·obtain⟨k,j,hks,hlt,hlt2,hke,hje⟩:=IA h hp e;rw[l10 e,aV hks,dX hks];have et:eG l F p=(nL++[32])++bu l k++[32]++bF l F j:=by unfold eG;rw[e,aV hks,dX hks];simp[nL]
  rw[et];exact((((kT nL (by decide) (by decide) (by decide)).app (IU h.sh (by omega) (by omega)) (λ_ _=>trivial)).app qw (λr _=>vF _)).app (hex j hlt2 hje) (λ_ _=>trivial)).of rfl rfl
 ·obtain⟨k,j,i,hks,hlt,hlt2,hlt3,hke,hj6,hi6⟩:=Bh h hp e;rw[l11 e,aV hks];have et:eG l F p=(Af++[32])++bF l F k:=by unfold eG;rw[e,aV hks];simp[Af]
  rw[et];exact((kT Af (by decide) (by decide) (by decide)).app (hex k hlt hke) (λ_ _=>trivial)).of rfl rfl
 ·obtain⟨k,j,hks,hlt,hlt2,hke,hj6⟩:=Bi h hp e;rw[l12 e,aV hks];have et:eG l F p=(iL++[32])++bF l F k:=by unfold eG;rw[e,aV hks];simp[iL]
  rw[et];exact((kT iL (by decide) (by decide) (by decide)).app (hex k hlt hke) (λ_ _=>trivial)).of rfl rfl
 ·obtain⟨k,js,hks,hlt,hkk,hjs⟩:=IC h hp e;rw[l13 e,aV hks,hks,List.tail_cons];have et:eG l F p=(if bu l p=[] then [] else bu l p++[32,61,32])++((dK++[32])++bu l k++nE (js.map (bF l F))):=by unfold eG;rw[e,aV hks,hks];simp[dK]
  rw[et];have h1:Lx ((dK++[32])++bu l k++nE (js.map (bF l F))) ([iP dK,jq (bu l k)]++qm (js.map (fG l F))) any:=
   (((kT dK (by decide) (by decide) (by decide)).app (IU h.sh (by omega) (by omega)) (λ_ _=>trivial)).app (CX js λj hj=>by
    obtain⟨x2,rfl,hx1,hx2⟩:=hjs j hj
    exact hex x2 hx1 hx2) (λr _=>eH (by decide) _)).of rfl rfl
  have htx:=(bQ h.sh hp).tx;rw[e]at htx;by_cases h0:bu l p=[]
  ·rw[if_pos h0,if_pos h0];exact h1.weak (λ_ _=>trivial)
  ·rw[if_neg h0,if_neg h0];have hi:ig (bu l p)=true:=by simpa [iT,h0]using htx
   exact((((mG hi).app z_ (λr _=>vF _)).app h1 (λ_ _=>trivial)).weak (λ_ _=>trivial)).of rfl rfl
 ·rw[l14 e];have hw:Lx dL [iP dL] tY:=vE dL (by decide) (by decide) (by decide);rcases IE h hp e with hks |⟨k,hks,hlt,hke⟩
  ·have et:eG l F p=dL:=by unfold eG;rw[e,hks];simp[dL]
   rw[et,hks];exact hw
  ·have et:eG l F p=dL++[32]++bF l F k:=by unfold eG;rw[e,hks];simp[dL]
   rw[et,hks];refine(((hw.app qw (λr _=>vF _)).app (hex k hlt hke) (λ_ _=>trivial))).of rfl ?_;simp
 ·obtain⟨k,hks,hlt,hke⟩:=wN h hp (by omega);rw[l15 e,aV hks];have et:eG l F p=(jw++[32])++bF l F k:=by unfold eG;rw[e,aV hks];simp[jw]
  rw[et];exact((kT jw (by decide) (by decide) (by decide)).app (hex k hlt hke) (λ_ _=>trivial)).of rfl rfl
 ·rw[l16 e];have et:eG l F p=tC:=by unfold eG;rw[e];simp[tC]
  rw[et];exact vE tC (by decide) (by decide) (by decide)
 ·obtain⟨k,hks,hlt,hke⟩:=wN h hp (by omega);rw[l17 e,aV hks];have et:eG l F p=bu l p++([32,61,32]++(tF++[32]))++bF l F k:=by unfold eG;rw[e,aV hks];simp[tF]
  rw[et];exact(((mG (gG h.sh hp (by omega))).app (z_.app (kT tF (by decide) (by decide) (by decide)) (λ_ _=>trivial)) (λr _=>vF _)).app (hex k hlt hke) (λ_ _=>trivial)).of rfl rfl
theorem CY {l:List Tr.Nd}{b dd:Nat->Nat}(h:lL l b dd){st:Nat->Int->List UInt8}{sk:Int->List Tok}(d:Nat){p:Nat}(locals:List Int)(hl:∀k ∈ locals,∃q:Nat,k=(q:Int)/\q<l.length/\(ag l q).kd=5)(hs:∀k ∈ (ag l p).ks,Lx (st (d+1) k) (sk k) any):Lx (fI l st d p locals) (jL l sk p locals) any:=by
 have h1:Lx [32,123,10] [bB [123]] any:=((qw.app QU (λ_ _=>trivial)).app Bl (λ_ _=>trivial)).of rfl rfl;have h2:=tZ (f:=ja l (d+1)) (g:=oD l) locals λk hk=>by
  obtain⟨q,rfl,hq,hq5⟩:=hl k hk;exact IR h.sh (d+1) hq (Or.inr hq5)
 have h3:=tZ (f:=st (d+1)) (g:=sk) (ag l p).ks hs;unfold fI jL;refine(((((h1.app h2 (λ_ _=>trivial)).app h3 (λ_ _=>trivial)).app (qx d) (λ_ _=>trivial)).app QV (λ_ _=>trivial))).of rfl ?_;simp only[List.append_assoc,List.cons_append,List.nil_append]
theorem OU {l:List Tr.Nd}{b dd:Nat->Nat}(h:lL l b dd)(F:Nat)(hF:l.length<=F):∀p:Nat,p<l.length->dS (ag l p).kd=true->∀(f d:Nat),p<f->Lx (nC l F f d p) (eU l F f p) any:=by
 intro p;induction p using Nat.strongRecOn with
 |_ p ih=>
  intro hp hk f d hf;obtain⟨f,rfl⟩:∃f',f=f'+1:=⟨f-1,by omega⟩;rw[rq,sM];have hln:=OT h hp hk F hF;have hbk:∀q:Nat,q<p->(ag l q).kd=6->Lx (fI l (nC l F f) d q []) (jL l (eU l F f) q []) any:=λq hq h6=>CY h d [] (λk hk2=>by cases hk2) λk hk2=>by
   obtain⟨k2,rfl,h8,h9⟩:=h.ok.bl q (by omega) h6 k hk2;exact ih k2 (by omega) (by omega) h9 f (d+1) (by omega)
  have hbh:∀(q:Int) (ll:List Int) (r:List UInt8),tY (fI l (nC l F f) d q ll++r):=λq ll r=>by
   unfold fI;exact eH (by decide) _
  by_cases e11:(ag l p).kd=11
  ·obtain⟨k,j,i,hks,hlt,hlt2,hlt3,hke,hj6,hi6⟩:=Bh h hp e11;rw[if_pos e11,if_pos e11,dX hks,xL hks];have hB:=hbk j hlt2 hj6;have hC:Lx (if (ag l (i:Int)).ks=[] then [] else [32,101,108,115,101]++fI l (nC l F f) d i []) (if (ag l (i:Int)).ks=[] then [] else iP j4 :: jL l (eU l F f) i []) any:=by
    split
    ·exact vB
    ·have h1:Lx [32,101,108,115,101] [iP j4] tY:=(qw.app (vE j4 (by decide) (by decide) (by decide)) (λ_ _=>trivial)).of rfl rfl;exact(h1.app (hbk i hlt3 hi6) (λr _=>hbh _ _ r)).of rfl rfl
   refine((((qx d).app hln (λ_ _=>trivial)).app (hB.app hC (λ_ _=>trivial)) (λr _=>by rw[List.append_assoc];exact hbh _ _ _)).app Bl (λ_ _=>trivial)).of rfl ?_;simp only[List.nil_append,List.append_nil]
  rw[if_neg e11,if_neg e11];by_cases e12:(ag l p).kd=12
  ·obtain⟨k,j,hks,hlt,hlt2,hke,hj6⟩:=Bi h hp e12;rw[if_pos e12,if_pos e12,dX hks];refine((((qx d).app hln (λ_ _=>trivial)).app (hbk j hlt2 hj6) (λr _=>hbh _ _ _)).app Bl (λ_ _=>trivial)).of rfl ?_;simp only[List.nil_append,List.append_nil]
  rw[if_neg e12,if_neg e12];by_cases e16:(ag l p).kd=16
  ·obtain⟨k,j,hks,hlt,hlt2,hk6,hj6⟩:=IB h hp e16;rw[if_pos e16,if_pos e16,aV hks,dX hks];have h1:Lx [32,99,97,116,99,104,32] [iP mO] any:=(qw.app (kT mO (by decide) (by decide) (by decide)) (λ_ _=>trivial)).of rfl rfl;have hT:Lx (fI l (nC l F f) d k []++[32,99,97,116,99,104,32]++bu l p++fI l (nC l F f) d j []) (jL l (eU l F f) k []++[iP mO,jq (bu l p)]++jL l (eU l F f) j []) any:=by
    refine((((hbk k hlt hk6).app h1 (λ_ _=>trivial)).app (mG (gG h.sh hp (by omega))) (λ_ _=>trivial)).app (hbk j hlt2 hj6) (λr _=>hbh _ _ r)).of rfl ?_;simp only[List.append_assoc,List.cons_append,List.nil_append]
   refine((((qx d).app hln (λ_ _=>trivial)).app hT (λr _=>by rw[List.append_assoc,List.append_assoc,List.append_assoc];exact hbh _ _ _)).app Bl (λ_ _=>trivial)).of rfl ?_;simp only[List.nil_append,List.append_nil]
  ·rw[if_neg e16,if_neg e16];refine((((qx d).app hln (λ_ _=>trivial)).app QW (λr _=>eH (by decide) _)).app Bl (λ_ _=>trivial)).of rfl ?_;simp only[List.nil_append,List.append_nil]
theorem LK {l:List Tr.Nd}{b dd:Nat->Nat}(h:lL l b dd)(F:Nat)(hF:l.length<=F){p:Nat}(hp:p<l.length)(hk:(ag l p).kd=3):Lx (nG l F p) (mF l F p) any:=by
 obtain⟨ks,q,hks,hq,hq6,hall⟩:=h.ok.pr p hp hk;have hfl:(ag l p).ks.getLastD 0=(q:Int):=by rw[hks];simp
 have hkid:∀k ∈ (ag l p).ks,∃k2:Nat,k=(k2:Int)/\k2<p:=λk hk2=>bV h.ahead hp k hk2
 have hpar:=CX (f:=lS l) (g:=oC l) ((ag l p).ks.filter λk=>(ag l k).kd==4) λk hk2=>by
  obtain⟨h1,h2⟩:=List.mem_filter.1 hk2;obtain⟨k2,rfl,h3⟩:=hkid k h1;have h4:(ag l k2).kd=4:=by simpa using h2
  exact Aa h.sh (by omega) (by omega)
 have hn:0<=(ag l p).n/\(ag l p).n<=4:=by
  have:=(bQ h.sh hp).num;unfold eP at this;rw[if_neg (by omega),if_pos hk]at this;simpa using this
 have hB:=CY h (st:=nC l F F) (sk:=eU l F F) 0 (p:=q) ((ag l p).ks.filter λk=>(ag l k).kd==5) (λk hk2=>by
  obtain⟨h1,h2⟩:=List.mem_filter.1 hk2
  obtain⟨k2,rfl,h3⟩:=hkid k h1
  exact⟨k2,rfl,by omega,by simpa using h2⟩) λk hk2=>by
   obtain⟨k2,rfl,h8,h9⟩:=h.ok.bl q (by omega) hq6 k hk2;exact OU h F hF k2 (by omega) h9 F 1 (by omega)
 have hbh:∀(ll:List Int) (r:List UInt8),tY (fI l (nC l F F) 0 q ll++r):=λll r=>by
  unfold fI;exact eH (by decide) _
 have hT:Lx (if (ag l p).n=0 then [] else [32]++qN (ag l p).n) (if (ag l p).n=0 then [] else [iP (qN (ag l p).n)]) tY:=by
  split
  ·exact vB.weak (λ_ _=>trivial)
  ·exact(qw.app (MB (by omega) hn.2) (λ_ _=>trivial)).of rfl rfl
 unfold nG mF;rw[hfl];refine(((((((kT kH (by decide) (by decide) (by decide)).app (mG (gG h.sh hp (by omega))) (λ_ _=>trivial)).app hpar (λr _=>eH (by decide) _)).app hT (λ_ _=>trivial)).app hB (λr _=>hbh _ r)).app Bl (λ_ _=>trivial))).of rfl ?_;simp only[List.append_nil,List.append_assoc,List.cons_append,List.nil_append]
theorem LM {l:List Tr.Nd}{b dd:Nat->Nat}(h:lL l b dd)(F:Nat)(hF:l.length<=F){p:Nat}(hp:p<l.length)(hk:(ag l p).kd=1):Lx (lq l F p) (vo l F p) any:=by
 unfold lq vo;refine tZ (f:=λk=>if (ag l k).kd=2 then ja l 0 k else nG l F k) (g:=λk=>if (ag l k).kd=2 then oD l k else mF l F k) _ λk hk2 =>?_
 obtain⟨k2,rfl,h1,h2⟩:=h.ok.pg p hp hk k hk2;by_cases e:(ag l k2).kd=2
 ·simp only[e,if_true];exact IR h.sh 0 (by omega) (Or.inl e)
 ·have e3:(ag l k2).kd=3:=by omega
  show Lx (if (ag l k2).kd=2 then _ else _) (if (ag l k2).kd=2 then _ else _) any;rw[if_neg e,if_neg e];exact LK h F hF (by omega) e3
theorem OV {x:List UInt8}{X:List Tok}{ok:List UInt8->Prop}(h:Lx x X ok)(h0:ok []):Tk.I_ (Tk.iF x 0)=some ((X++[eT]).map SK):=by
 have:=h 0 [] h0;rw[List.append_nil]at this;rw[Tk.Oj,this,List.map_append];rfl
end
end Go.Proofs.YteecfjhjllajlaaGreatDoor
