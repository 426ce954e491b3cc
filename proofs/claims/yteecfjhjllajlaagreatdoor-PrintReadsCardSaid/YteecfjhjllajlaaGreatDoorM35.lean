/- PROVED: Bq Br Bs Wv Yz Zl Zm Bt Bu Bv. No more condition. -/
import Derived.Test.YteecfjhjllajlaaGreatDoorM34
import Derived.Deep.Strs
import Derived.Deep.Slices
set_option maxHeartbeats 1500000
namespace Go.Proofs.YteecfjhjllajlaaGreatDoor
open Go.Lib (hid)
open Go Go.RowKit
namespace Tk
def tC (acc:Nat)(l:List UInt8):Nat:=l.foldl (λa c=>a*10+(c.toNat-48)) acc
def Ay (l:List UInt8):Bool:=l.all j6
theorem Nw {c:UInt8}(h:j6 c=true):48<=c.toNat/\c.toNat<=57:=by unfold j6 at h;simp at h;omega
theorem xx {c:UInt8}{r:List UInt8}:Ay (c :: r)=(j6 c&&Ay r):=rfl
theorem xy (acc:Nat)(c:UInt8)(r:List UInt8):tC acc (c :: r)=tC (acc*10+(c.toNat-48)) r:=by unfold tC;rw[List.foldl_cons]
theorem RU (n:Nat):10 ^ (n+1)=10*10 ^ n:=by rw[Nat.pow_succ,Nat.mul_comm]
theorem Dz:∀(l:List UInt8) (acc:Nat),acc*10 ^ l.length<=tC acc l
 | [],acc=>by show acc*10 ^ 0<=acc;rw[Nat.pow_zero,Nat.mul_one];exact Nat.le_refl _
 |c :: r,acc=>by
  have ih:=Dz r (acc*10+(c.toNat-48));rw[xy,List.length_cons,RU,<- Nat.mul_assoc];exact Nat.le_trans (Nat.mul_le_mul_right _ (Nat.le_add_right _ _)) ih
theorem r9 (M:Nat)(hM:M<=18446744073709551615):∀(l:List UInt8) (acc:Nat),acc<=M->Ay l=true->Lib.parseUintM M acc l=if tC acc l<=M then .ok (tC acc l) else .range
 | [],acc,h,_=>by rw[show tC acc []=acc from rfl,if_pos h];rfl
 |c :: r,acc,h,hd=>by
  rw[xx,Bool.and_eq_true]at hd;have hc:=Nw hd.1;have hg:=Dz r (acc*10+(c.toNat-48));have h1:0<10 ^ r.length:=Nat.pos_of_ne_zero (by simp);have h2:acc*10+(c.toNat-48)<=tC (acc*10+(c.toNat-48)) r:=Nat.le_trans (Nat.le_mul_of_pos_right _ h1) hg;rw[xy];simp only[Lib.parseUintM];rw[if_pos hc];by_cases o1:1844674407370955162<=acc
  ·rw[if_pos o1,if_neg (by omega)]
  ·rw[if_neg o1];by_cases o2:M<acc*10+(c.toNat-48)
   ·rw[if_pos o2,if_neg (by omega)]
   ·rw[if_neg o2,r9 M hM r _ (by omega) hd.2]
theorem E8 (acc:Nat)(l:List UInt8)(c:UInt8):tC acc (l++[c])=tC acc l*10+(c.toNat-48):=by unfold tC;rw[List.foldl_append];rfl
theorem uu {k:Nat}(h:k<10):(UInt8.ofNat (48+k)).toNat=48+k:=by rw[UInt8.toNat_ofNat'];omega
theorem RV {k:Nat}(h:k<10):j6 (UInt8.ofNat (48+k))=true:=by unfold j6;rw[uu h];simp;omega
theorem DC:∀u:Nat,Ay (Lib.decDigits u)=true:=by
 intro u;induction u using Nat.strongRecOn with
 |_ u ih=>
  rw[Lib.decDigits];split
  ·rename_i h;unfold Ay;rw[List.all_cons,RV h];rfl
  ·have h2:=ih (u / 10) (by omega);unfold Ay at h2 |-;rw[List.all_append,h2,List.all_cons,RV (by omega)];rfl
theorem MO:∀u:Nat,tC 0 (Lib.decDigits u)=u:=by
 intro u;induction u using Nat.strongRecOn with
 |_ u ih=>
  rw[Lib.decDigits];split
  ·rename_i h;unfold tC;rw[List.foldl_cons,List.foldl_nil,uu h];omega
  ·rw[E8,ih (u / 10) (by omega),uu (by omega)];omega
theorem Cc (u:Nat):Lib.decDigits u≠[]:=by
 rw[Lib.decDigits];split<;>simp
theorem Js:∀u:Nat,1<=u->((Lib.decDigits u).headD 0).toNat≠48:=by
 intro u;induction u using Nat.strongRecOn with
 |_ u ih=>
  intro hu;rw[Lib.decDigits];split
  ·rename_i h;show(UInt8.ofNat (48+u)).toNat≠48;rw[uu h];omega
  ·have h2:=ih (u / 10) (by omega) (by omega);have h3:=Cc (u / 10);revert h2 h3;cases Lib.decDigits (u / 10) with
   |nil=>intro _ h3;exact absurd rfl h3
   |cons c r=>intro h2 _;exact h2
theorem E9 {u:Nat}(h:1<(Lib.decDigits u).length):1<=u:=by
 rcases Nat.eq_zero_or_pos u with e |e
 ·rw[e,Lib.decDigits]at h;simp at h
 ·exact e
theorem E_ {l:List UInt8}(h:j6 (l.headD 0)=true):ko l=false:=by
 cases e:ko l with
 |false=>rfl
 |true=>
  exfalso;unfold ko at e;simp only[Bool.or_eq_true,beq_iff_eq]at e;rcases e with((((((((((((((((((e |e) |e) |e) |e) |e) |e) |e) |e) |e) |e) |e) |e) |e) |e) |e) |e) |e) |e) |e<;>rw[e]at h<;>revert h<;>decide
theorem Fa {l:List UInt8}(h:j6 (l.headD 0)=true):dJ l=false:=by
 cases e:dJ l with
 |false=>rfl
 |true=>
  exfalso;unfold dJ at e;simp only[Bool.or_eq_true,beq_iff_eq]at e;rcases e with((((((((((((((((((((((e |e) |e) |e) |e) |e) |e) |e) |e) |e) |e) |e) |e) |e) |e) |e) |e) |e) |e) |e) |e) |e) |e) |e<;>rw[e]at h<;>revert h<;>decide
theorem MP {n:Int}(h0:0<=n)(h1:n<=9223372036854775807):cB (Lib.itoa n)=2/\jA (Lib.itoa n)=n:=by
 have e:Lib.itoa n=Lib.decDigits n.toNat:=by unfold Lib.itoa;rw[if_neg (by omega)]
 rw[e];have hne:=Cc n.toNat;have hall:=DC n.toNat;have hv:=MO n.toNat;have hz:¬(1<(Lib.decDigits n.toNat).length/\((Lib.decDigits n.toNat).headD 0).toNat=48):=λh=>Js _ (E9 h.1) h.2
 have hd:j6 ((Lib.decDigits n.toNat).headD 0)=true:=by
  revert hall hne;cases Lib.decDigits n.toNat with
  |nil=>intro hne _;exact absurd rfl hne
  |cons c r=>intro _ hall;rw[xx,Bool.and_eq_true]at hall;exact hall.1
 have hnum:nO (Lib.decDigits n.toNat)=some n:=by
  unfold nO;rw[if_neg hz];have hp:Lib.parseIntB 64 (Lib.decDigits n.toNat)=.ok n:=by
   revert hd hall hv hne;cases Lib.decDigits n.toNat with
   |nil=>intro hne _ _ _;exact absurd rfl hne
   |cons c r=>
    intro _ hall hv hd;have hc:=Nw (show j6 c=true from hd);unfold Lib.parseIntB;simp only;rw[if_neg (by omega)];unfold Lib.parseUintB;rw[if_neg (by simp),r9 _ (by decide) _ 0 (Nat.zero_le _) hall,hv,if_pos (by have:(2:Nat) ^ 64-1=18446744073709551615:=(by decide);omega)];simp only;rw[if_neg (λh=>by have:(2:Nat) ^ (64-1)=9223372036854775808:=(by decide);omega),if_neg (λh=>by omega),if_neg (by omega)];congr 1;omega
  rw[hp]
 have hid:iB (Lib.decDigits n.toNat)=false:=by unfold iB;rw[hd];simp
 have hok:qN (Lib.decDigits n.toNat)=true:=by unfold qN;rw[hnum];rfl
 have hk:cB (Lib.decDigits n.toNat)=2:=by unfold cB;rw[E_ hd,hid,Fa hd,hok];rfl
 refine⟨hk,?_⟩;unfold jA;rw[if_pos hk];unfold tQ;rw[hnum];rfl
end Tk
section
open Go
open Tr (nth dS aI fu bB kY iX iE iD y9 qJ eQ iW iB si kr aJ xE r_ gW)
def SK (t:Tok):Nat × Int × List UInt8:=(t.k,t.n,t.s)
def Lx (x:List UInt8)(X:List Tok)(ok:List UInt8->Prop):Prop:=∀i rest,ok rest->Tk.JN (Tk.lg i (x++rest))=(Tk.JN (Tk.lg 0 rest)).map (X.map SK ++ ·)
def any:List UInt8->Prop:=λ_=>True
def ug (r:List UInt8):Prop:=(match r with| []=>true |c :: _ => !Tk.wdB c)=true
def P6 (d:UInt8)(r:List UInt8):Prop:=(match r with| []=>true |c :: _ => !(c==d))=true
theorem Lx.weak {x:List UInt8}{X:List Tok}{ok ok':List UInt8->Prop}(h:Lx x X ok)(k:∀r,ok' r->ok r):Lx x X ok':=λi rest hr=>h i rest (k rest hr)
theorem Lx.of {x x':List UInt8}{X X':List Tok}{ok:List UInt8->Prop}(h:Lx x X ok)(e:x'=x)(e2:X'=X):Lx x' X' ok:=by subst e e2;exact h
theorem Lx.app {x y:List UInt8}{X Y:List Tok}{ok1 ok2:List UInt8->Prop}(h:Lx x X ok1)(k:Lx y Y ok2)(q:∀r,ok2 r->ok1 (y++r)):Lx (x++y) (X++Y) ok2:=λi rest hr=>by
 rw[List.append_assoc,h i _ (q rest hr),k 0 rest hr,Option.map_map,List.map_append];congr 1;funext z
 show X.map SK++(Y.map SK++z)=_;rw[List.append_assoc]
theorem vS:Lx [] [] any:=λi rest _=>by
 rw[List.nil_append,Tk.kK _ i 0 _ (Nat.le_refl _)];cases Tk.JN (Tk.lg 0 rest)<;>rfl
theorem Ny (c:UInt8)(hc:Tk.kz c=true):Lx [c] [] any:=λi rest _=>by
 rw[List.cons_append,List.nil_append,Tk.rT hc,Tk.kK _ _ 0 _ (Nat.le_refl _)];cases Tk.JN (Tk.lg 0 rest)<;>rfl
theorem vT {x:List UInt8}{t:Tok}{ok:List UInt8->Prop}(hpc:∀r,ok r->Tk.pc (x++r)=x)(c:UInt8)(x':List UInt8)(hx:x=c :: x')(h1:Tk.kz c=false)(h2:Tk.pK c=false)(hk:Tk.cB x=t.k)(hk0:t.k≠0)(hn:Tk.jA x=t.n)(hs:t.s=x):Lx x [t] ok:=λi rest hr=>by
 have h3:=hpc rest hr;have e2:x++rest=c :: (x'++rest):=by rw[hx];rfl
 rw[e2]at h3 |-;rw[Tk.rU h1 h2 (by rw[h3,hk];exact hk0),Tk.yT,h3];have e3:(c :: (x'++rest)).drop x.length=rest:=by rw[<- e2,List.drop_left]
 rw[e3,Tk.kK _ _ 0 _ (Nat.le_refl _)];have e4:Tk.strip (Tk.I6 i x)=SK t:=by unfold Tk.strip Tk.I6 SK;simp only[hk,hn,hs]
 rw[e4];rfl
theorem DD {q:UInt8->Bool}:∀ {x r:List UInt8},x.all q=true->(match r with| []=>true |c :: _ => !q c)=true->(x++r).takeWhile q=x
 | [],[],_,_=>rfl
 | [],c :: r,_,h=>by
  have:q c=false:=by simpa using h
  rw[List.nil_append,List.takeWhile_cons,this];rfl
 |c :: x,r,hx,h=>by
  rw[List.all_cons,Bool.and_eq_true]at hx;rw[List.cons_append,List.takeWhile_cons,hx.1];show c :: (x++r).takeWhile q=_;rw[DD hx.2 h]
theorem RX {c:UInt8}(h:Tk.wdB c=true):Tk.kz c=false/\Tk.pK c=false:=by
 unfold Tk.wdB Tk.j6 at h;unfold Tk.kz Tk.pK;simp only[Bool.or_eq_true,Bool.and_eq_true,decide_eq_true_eq,beq_iff_eq]at h;refine⟨?_,?_⟩
 ·simp only[Bool.or_eq_false_iff,beq_eq_false_iff_ne];omega
 ·simp only[beq_eq_false_iff_ne];omega
theorem yZ {x:List UInt8}{t:Tok}(h0:x≠[])(hx:Tk.kC x=true)(hk:Tk.cB x=t.k)(hk0:t.k≠0)(hn:Tk.jA x=t.n)(hs:t.s=x):Lx x [t] ug:=by
 cases x with
 |nil=>exact absurd rfl h0
 |cons c x=>
  have hx2:=hx;unfold Tk.kC at hx2;rw[List.all_cons,Bool.and_eq_true]at hx2;obtain⟨h1,h2⟩:=RX hx2.1;refine vT (λr hr =>?_) c x rfl h1 h2 hk hk0 hn hs;rw[List.cons_append];simp only[Tk.pc,hx2.1,if_true];rw[DD hx2.2 hr]
theorem vU {x:List UInt8}(h:iB x=true):x≠[]/\Tk.kC x=true/\Tk.cB x=1/\Tk.jA x=0:=by
 have h2:Tk.iB x=true:=h;have h3:=h2;unfold Tk.iB at h3;simp only[Bool.and_eq_true,decide_eq_true_eq,Bool.not_eq_true']at h3;have hk:Tk.cB x=1:=by unfold Tk.cB;rw[h3.1.2,h2];rfl
 exact⟨λe=>by rw[e]at h3;simp at h3,h3.2,hk,by unfold Tk.jA;rw[hk];rfl⟩
theorem mU {x:List UInt8}(h:iB x=true):Lx x [jE x] ug:=by
 obtain⟨h1,h2,h3,h4⟩:=vU h;exact yZ h1 h2 h3 (show(1:Nat)≠0 by decide) h4 rfl
theorem P7 {x:List UInt8}(h:Tk.Ay x=true):Tk.kC x=true:=by
 unfold Tk.Ay at h;unfold Tk.kC;rw[List.all_eq_true]at h |-;intro c hc;have:=h c hc;unfold Tk.wdB;rw[this];simp
theorem P8 {n:Int}(h0:0<=n)(h1:n<=9223372036854775807):Lx (Lib.itoa n) [SF n] ug:=by
 obtain⟨h3,h4⟩:=Tk.MP h0 h1;have e:Lib.itoa n=Lib.decDigits n.toNat:=by unfold Lib.itoa;rw[if_neg (by omega)]
 refine yZ ?_ ?_ h3 (show(2:Nat)≠0 by decide) h4 rfl
 ·rw[e];exact Tk.Cc _
 ·rw[e];exact P7 (Tk.DC _)
theorem vV (x:List UInt8)(h0:x≠[])(hx:Tk.kC x=true)(hk:Tk.cB x=4):Lx x [iT x] ug:=yZ h0 hx hk (show(4:Nat)≠0 by decide) (by unfold Tk.jA;rw[hk];rfl) rfl
theorem P9 {c:UInt8}{r:List UInt8}(hw:Tk.wdB c=false)(hr:∀d t,r=d :: t->Tk.dJ [c,d]=false):Tk.pc ([c]++r)=[c]:=by
 cases r with
 |nil=>simp[Tk.pc,hw]
 |cons d t=>
  have:=hr d t rfl;simp[Tk.pc,hw,this]
theorem DF (c:UInt8)(hw:Tk.wdB c=false)(h1:Tk.kz c=false)(h2:Tk.pK c=false)(hk:Tk.cB [c]=3){ok:List UInt8->Prop}(hr:∀r,ok r->∀d t,r=d :: t->Tk.dJ [c,d]=false):Lx [c] [bC [c]] ok:=
 vT (λr q=>P9 hw (hr r q)) c [] rfl h1 h2 hk (show(3:Nat)≠0 by decide) (by unfold Tk.jA;rw[hk];rfl) rfl
theorem Tp {c:UInt8}(h:∀d:UInt8,d=61\/d=38\/d=124->Tk.dJ [c,d]=false):∀d,Tk.dJ [c,d]=false:=λd=>by
 cases e:Tk.dJ [c,d] with
 |false=>rfl
 |true=>
  have:=Tk.I7 e;rw[h d this]at e;cases e
theorem nK (c:UInt8)(hw:Tk.wdB c=false)(h1:Tk.kz c=false)(h2:Tk.pK c=false)(hk:Tk.cB [c]=3)(h:Tk.dJ [c,61]=false/\Tk.dJ [c,38]=false/\Tk.dJ [c,124]=false):Lx [c] [bC [c]] any:=
 DF c hw h1 h2 hk λ_ _ d _ _=>Tp (c:=c) (λd hd=>by
  rcases hd with e |e |e
  ·rw[e];exact h.1
  ·rw[e];exact h.2.1
  ·rw[e];exact h.2.2) d
theorem RY:Lx [40] [bC [40]] any:=nK 40 (by decide) (by decide) (by decide) (by decide) (by decide)
theorem RZ:Lx [41] [bC [41]] any:=nK 41 (by decide) (by decide) (by decide) (by decide) (by decide)
theorem R3:Lx [91] [bC [91]] any:=nK 91 (by decide) (by decide) (by decide) (by decide) (by decide)
theorem R4:Lx [93] [bC [93]] any:=nK 93 (by decide) (by decide) (by decide) (by decide) (by decide)
theorem R5:Lx [123] [bC [123]] any:=nK 123 (by decide) (by decide) (by decide) (by decide) (by decide)
theorem R6:Lx [125] [bC [125]] any:=nK 125 (by decide) (by decide) (by decide) (by decide) (by decide)
theorem SH:Lx [44] [bC [44]] any:=nK 44 (by decide) (by decide) (by decide) (by decide) (by decide)
theorem R7:Lx [59] [bC [59]] any:=nK 59 (by decide) (by decide) (by decide) (by decide) (by decide)
theorem SL:Lx [45] [bC [45]] any:=nK 45 (by decide) (by decide) (by decide) (by decide) (by decide)
theorem Az {d c:UInt8}{t:List UInt8}(h:P6 d (c :: t)):c≠d:=λe=>by subst e;simp[P6]at h
theorem SN:Lx [33] [bC [33]] (P6 61):=DF 33 (by decide) (by decide) (by decide) (by decide) λr hr d t e=>by
 subst e;have hne:=Az hr;cases e2:Tk.dJ [33,d] with
 |false=>rfl
 |true=>
  rcases Tk.I7 e2 with e3 |e3 |e3
  ·exact absurd e3 hne
  ·rw[e3]at e2;revert e2;decide
  ·rw[e3]at e2;revert e2;decide
theorem SV:Lx [38] [bC [38]] (P6 38):=DF 38 (by decide) (by decide) (by decide) (by decide) λr hr d t e=>by
 subst e;have hne:=Az hr;cases e2:Tk.dJ [38,d] with
 |false=>rfl
 |true=>
  rcases Tk.I7 e2 with e3 |e3 |e3
  ·rw[e3]at e2;revert e2;decide
  ·exact absurd e3 hne
  ·rw[e3]at e2;revert e2;decide
theorem qF:Lx [32] [] any:=Ny 32 (by decide)
theorem Ce:Lx [10] [] any:=Ny 10 (by decide)
theorem R8 {x:List UInt8}(h:si x=true):x ∈ Tk.MB:=by
 unfold si at h;simp only[Bool.or_eq_true,beq_iff_eq]at h;unfold Tk.MB;simp only[List.mem_cons,List.not_mem_nil,or_false];rcases h with((((((((((((h |h) |h) |h) |h) |h) |h) |h) |h) |h) |h) |h) |h)<;>simp[h]
theorem P_:∀x ∈ Tk.MB,∃c w',x=c :: w'/\Tk.kz c=false/\Tk.pK c=false/\(∀r,Tk.pc (x++32 :: r)=x)/\Tk.cB x=3/\Tk.jA x=0:=by
 intro x hx;simp only[Tk.MB,List.mem_cons,List.not_mem_nil,or_false]at hx;rcases hx with rfl |rfl |rfl |rfl |rfl |rfl |rfl |rfl |rfl |rfl |rfl |rfl |rfl<;>exact⟨_,_,rfl,by decide,by decide,λr=>rfl,by decide,by decide⟩
theorem R9 {x:List UInt8}(h:si x=true):Lx ([32]++x++[32]) [bC x] any:=by
 obtain⟨c,w',e,h1,h2,h3,h4,h5⟩:=P_ x (R8 h);have hp:Lx x [bC x] (λr=>∃r',r=32 :: r'):=vT (λr ⟨r',e'⟩=>by rw[e'];exact h3 r') c w' e h1 h2 h4 (show(3:Nat)≠0 by decide) h5 rfl;exact((qF.app hp (λ_ _=>trivial)).app qF (λr _=>⟨r,rfl⟩)).of rfl rfl
theorem AA:Lx [32,61,32] [bC [61]] any:=by
 have hp:Lx [61] [bC [61]] (λr=>∃r',r=32 :: r'):=DF 61 (by decide) (by decide) (by decide) (by decide) λr hr d t e=>by
  obtain⟨r',e'⟩:=hr;rw[e']at e;injection e with e3 e4
  subst e3;decide
 exact((qF.app hp (λ_ _=>trivial)).app qF (λr _=>⟨r,rfl⟩)).of rfl rfl
theorem eO {c:UInt8}(h:Tk.wdB c=false)(t:List UInt8):ug (c :: t):=by unfold ug;simp[h]
theorem kX (x:List UInt8)(h0:x≠[])(hx:Tk.kC x=true)(hk:Tk.cB x=4):Lx (x++[32]) [iT x] any:=
 ((vV x h0 hx hk).app qF (λr _=>eO (by decide) r)).of rfl rfl
theorem Jt {l:List Tr.Nd}(h:iX l=true)(hx:FH l):∀(p:Nat),p<l.length->aI (ag l p).kd=true->∀f,p<f->(∃c t,bE l f p=c :: t/\c≠61)/\∃c t,qW l (bE l f) p=c :: t/\c≠61:=by
 intro p;induction p using Nat.strongRecOn with
 |_ p ih=>
  intro hp he f hf;obtain⟨f,rfl⟩:∃f',f=f'+1:=⟨f-1,by omega⟩;have hid:iB (bu l p)=true->∃c t,bu l p=c :: t/\c≠61:=λhi=>by
   rcases ht:bu l p with _ |⟨c,t⟩
   ·rw[ht]at hi;exact absurd hi (by decide)
   ·refine⟨c,t,rfl,λe =>?_⟩;rw[ht,e]at hi;have h2:=(vU hi).2.1;unfold Tk.kC at h2;rw[List.all_cons,Bool.and_eq_true]at h2;exact absurd h2.1 (by decide)
  have h1:∃c t,bE l (f+1) p=c :: t/\c≠61:=by
   rw[mF];rcases gp he with e |e |e |e |e |e |e |e
   ·rw[if_pos e];have hd:=Av (hx.num p hp e).1;rcases ht:Lib.itoa (ag l p).n with _ |⟨c,t⟩
    ·rw[ht]at hd;cases hd
    ·refine⟨c,t,rfl,λe2 =>?_⟩;rw[ht,e2,show Ji (61 :: t)=false from rfl]at hd;cases hd
   ·rw[if_neg (by omega),if_pos e];cases(ag l p).n==1
    ·exact⟨102,_,rfl,by decide⟩
    ·exact⟨116,_,rfl,by decide⟩
   ·rw[if_neg (by omega),if_neg (by omega),if_pos e];exact hid (gU h hp (by omega))
   ·rw[if_neg (by omega),if_neg (by omega),if_neg (by omega),if_pos e];obtain⟨c,t,e2,h2⟩:=hid (gU h hp (by omega));exact⟨c,_,by rw[e2];rfl,h2⟩
   ·rw[if_neg (by omega),if_neg (by omega),if_neg (by omega),if_neg (by omega),if_pos e];exact⟨108,_,rfl,by decide⟩
   ·rw[if_neg (by omega),if_neg (by omega),if_neg (by omega),if_neg (by omega),if_neg (by omega),if_pos e];exact⟨38,_,rfl,by decide⟩
   ·rw[if_neg (by omega),if_neg (by omega),if_neg (by omega),if_neg (by omega),if_neg (by omega),if_neg (by omega),if_pos e];have htx:bu l p=[45]\/bu l p=[33]:=by
     have:=(bR h hp).tx;rw[e]at this;simpa [iW]using this
    rcases htx with e2 |e2<;>rw[e2]
    ·exact⟨45,_,rfl,by decide⟩
    ·exact⟨33,_,rfl,by decide⟩
   ·rw[if_neg (by omega),if_neg (by omega),if_neg (by omega),if_neg (by omega),if_neg (by omega),if_neg (by omega),if_neg (by omega),if_pos e];obtain⟨k,j,hks,hlt,hlt2,hke,hje⟩:=hx.two p hp e;obtain⟨c,t,e2,h2⟩:=(ih k hlt (by omega) hke f (by omega)).2;rw[aR hks,e2];exact⟨c,_,rfl,h2⟩
  refine⟨h1,?_⟩;unfold qW;split
  ·exact⟨40,_,rfl,by decide⟩
  ·exact h1
theorem Ju {d c:UInt8}{t:List UInt8}(h:c≠d):P6 d (c :: t):=by unfold P6;simp[h]
theorem Jv {x:List UInt8}(h:iB x=true)(d:UInt8)(hd:Tk.wdB d=false)(r:List UInt8):P6 d (x++r):=by
 rcases x with _ |⟨c,t⟩
 ·exact absurd h (by decide)
 ·refine Ju λe =>?_
  have h2:=(vU h).2.1;unfold Tk.kC at h2;rw[List.all_cons,Bool.and_eq_true,e,hd]at h2;cases h2.1
theorem Jw {l:List Tr.Nd}(h:iX l=true)(hx:FH l):∀(p:Nat),p<l.length->aI (ag l p).kd=true->∀f,p<f->Lx (bE l f p) (fq l f p) ug/\Lx (qW l (bE l f) p) (Am l (fq l f) p) ug:=by
 intro p;induction p using Nat.strongRecOn with
 |_ p ih=>
  intro hp he f hf;obtain⟨f,rfl⟩:∃f',f=f'+1:=⟨f-1,by omega⟩;have h1:Lx (bE l (f+1) p) (fq l (f+1) p) ug:=by
   rw[mF,oL];rcases gp he with e |e |e |e |e |e |e |e
   ·rw[if_pos e,if_pos e];have:=hx.num p hp e;exact P8 this.1 this.2
   ·rw[if_neg (by omega),if_pos e,if_neg (by omega),if_pos e];have hn:(ag l p).n=0\/(ag l p).n=1:=by
     have:=(bR h hp).num;rw[e]at this;simpa [eQ]using this
    rcases hn with e2 |e2<;>rw[e2]
    ·exact vV jh (by decide) (by decide) (by decide)
    ·exact vV fw (by decide) (by decide) (by decide)
   ·rw[if_neg (by omega),if_neg (by omega),if_pos e,if_neg (by omega),if_neg (by omega),if_pos e];exact mU (gU h hp (by omega))
   ·rw[if_neg (by omega),if_neg (by omega),if_neg (by omega),if_pos e,if_neg (by omega),if_neg (by omega),if_neg (by omega),if_pos e];obtain⟨k,hks,hlt,hke⟩:=hx.one p hp (Or.inl e);rw[aR hks];have hk:=(ih k hlt (by omega) hke f (by omega)).1;exact((((mU (gU h hp (by omega))).app R3 (λr _=>eO (by decide) r)).app hk (λ_ _=>trivial)).app R4 (λr _=>eO (by decide) r)).weak (λ_ _=>trivial) |>.of rfl rfl
   ·rw[if_neg (by omega),if_neg (by omega),if_neg (by omega),if_neg (by omega),if_pos e,if_neg (by omega),if_neg (by omega),if_neg (by omega),if_neg (by omega),if_pos e];exact((kX tY (by decide) (by decide) (by decide)).app (mU (gU h hp (by omega))) (λ_ _=>trivial)).of rfl rfl
   ·rw[if_neg (by omega),if_neg (by omega),if_neg (by omega),if_neg (by omega),if_neg (by omega),if_pos e,if_neg (by omega),if_neg (by omega),if_neg (by omega),if_neg (by omega),if_neg (by omega),if_pos e];exact(SV.app (mU (gU h hp (by omega))) (λr _=>Jv (gU h hp (by omega)) 38 (by decide) r)).of rfl rfl
   ·rw[if_neg (by omega),if_neg (by omega),if_neg (by omega),if_neg (by omega),if_neg (by omega),if_neg (by omega),if_pos e,if_neg (by omega),if_neg (by omega),if_neg (by omega),if_neg (by omega),if_neg (by omega),if_neg (by omega),if_pos e];obtain⟨k,hks,hlt,hke⟩:=hx.one p hp (Or.inr e);rw[aR hks];have hk:=(ih k hlt (by omega) hke f (by omega)).2;obtain⟨c,t,e3,h3⟩:=(Jt h hx k (by omega) hke f (by omega)).2;have htx:bu l p=[45]\/bu l p=[33]:=by
     have:=(bR h hp).tx;rw[e]at this;simpa [iW]using this
    rcases htx with e2 |e2<;>rw[e2]
    ·exact SL.app hk (λ_ _=>trivial)
    ·exact SN.app hk (λr _=>by rw[e3];exact Ju h3)
   ·rw[if_neg (by omega),if_neg (by omega),if_neg (by omega),if_neg (by omega),if_neg (by omega),if_neg (by omega),if_neg (by omega),if_pos e,if_neg (by omega),if_neg (by omega),if_neg (by omega),if_neg (by omega),if_neg (by omega),if_neg (by omega),if_neg (by omega),if_pos e];obtain⟨k,j,hks,hlt,hlt2,hke,hje⟩:=hx.two p hp e;rw[aR hks,dO hks];have hk:=(ih k hlt (by omega) hke f (by omega)).2;have hj:=(ih j hlt2 (by omega) hje f (by omega)).2;have htx:si (bu l p)=true:=by
     have:=(bR h hp).tx;rw[e]at this;simpa [iW]using this
    exact((hk.app (R9 htx) (λr _=>eO (by decide) _)).app hj (λ_ _=>trivial)).of (by simp only[List.append_assoc]) rfl
  refine⟨h1,?_⟩;unfold qW Am;split
  ·exact(((RY.app h1 (λ_ _=>trivial)).app RZ (λr _=>eO (by decide) r)).weak (λ_ _=>trivial)).of rfl rfl
  ·exact h1
end
section
open Go
open Tr (nth dS aI fu bB kY iX iE iD y9 qJ eQ iW iB si kr aJ xE r_ gW)
theorem qG:∀d,Lx (fK d) [] any
 |0=>vS
 |d+1=>((qF.app (qF.app (qG d) (λ_ _=>trivial)) (λ_ _=>trivial))).of rfl rfl
theorem Nz {n:Int}(h1:1<=n)(h4:n<=4):Lx (qX n) [iT (qX n)] ug:=by
 have:n=1\/n=2\/n=3\/n=4:=by omega
 rcases this with e |e |e |e<;>rw[e]<;>exact vV _ (by decide) (by decide) (by decide)
theorem vW (r:List UInt8):ug (32 :: r):=eO (by decide) r
theorem AB {l:List Tr.Nd}(h:iX l=true){p:Nat}(hp:p<l.length)(hk:(ag l p).kd=2\/(ag l p).kd=4\/(ag l p).kd=5):Lx (lY l p) (oO l p) ug:=by
 have hn:1<=(ag l p).n/\(ag l p).n<=4:=by
  have:=(bR h hp).num;unfold eQ at this;rw[if_pos (by omega)]at this;simpa using this
 exact(((mU (gU h hp (by omega))).app qF (λr _=>vW r)).app (Nz hn.1 hn.2) (λ_ _=>trivial)).of rfl rfl
theorem Jy {l:List Tr.Nd}(h:iX l=true)(d:Nat){p:Nat}(hp:p<l.length)(hk:(ag l p).kd=2\/(ag l p).kd=5):Lx (jg l d p) (oP l p) any:=
 (((((qG d).app (kX pG (by decide) (by decide) (by decide)) (λ_ _=>trivial)).app (AB h hp (by omega)) (λ_ _=>trivial)).app (R7.app Ce (λ_ _=>trivial)) (λr _=>eO (by decide) _))).of rfl rfl
theorem uw {α:Type}{f:α->List UInt8}{g:α->List Tok}:∀ks:List α,(∀k ∈ ks,Lx (f k) (g k) any)->Lx (ks.map f).flatten (ks.map g).flatten any
 | [],_=>vS
 |k :: ks,h=>((h k List.mem_cons_self).app (uw ks λj hj=>h j (List.mem_cons_of_mem _ hj)) (λ_ _=>trivial)).of rfl rfl
theorem DI {α:Type}{f:α->List UInt8}{g:α->List Tok}:∀(k:α) (ks:List α),(∀j ∈ k :: ks,Lx (f j) (g j) ug)->Lx (fD ((k :: ks).map f)) (Ar ((k :: ks).map g)) ug
 |k,[],h=>(h k List.mem_cons_self).of rfl (by show g k++[]=_;rw[List.append_nil])
 |k,j :: ks,h=>by
  have h2:=DI j ks λi hi=>h i (List.mem_cons_of_mem _ hi)
  have h3:Lx [44,32] [bC [44]] any:=(SH.app qF (λ_ _=>trivial)).of rfl rfl;refine(((h k List.mem_cons_self).app h3 (λr _=>eO (by decide) _)).app h2 (λ_ _=>trivial)).of rfl ?_;show g k++(bC [44] :: g j++eB (ks.map g))=(g k++[bC [44]])++(g j++eB (ks.map g));simp only[List.append_assoc,List.cons_append,List.nil_append]
theorem DJ {α:Type}{f:α->List UInt8}{g:α->List Tok}(ks:List α)(h:∀j ∈ ks,Lx (f j) (g j) ug):Lx (nP (ks.map f)) (qC (ks.map g)) any:=by
 have h1:Lx (fD (ks.map f)) (Ar (ks.map g)) ug:=by
  cases ks with
  |nil=>exact vS.weak (λ_ _=>trivial)
  |cons k ks=>exact DI k ks h
 exact((RY.app h1 (λ_ _=>trivial)).app RZ (λr _=>eO (by decide) r)).of rfl rfl
theorem Jz {l:List Tr.Nd}(h:iX l=true){k:Nat}(hk:k<l.length)(h18:(ag l k).kd=18\/(ag l k).kd=19):Lx (bu l k) [jE (bu l k)] ug:=mU (gU h hk (by omega))
theorem Qi {l:List Tr.Nd}{b d:Nat->Nat}(h:lD l b d){p:Nat}(hp:p<l.length)(hk:dS (ag l p).kd=true)(F:Nat)(hF:l.length<=F):Lx (eF l F p) (Au l F p) ug:=by
 obtain⟨l7,l8,l9,l10,l11,l12,l13,l14,l15,l16,l17⟩:=Jo l F p;have hex:∀k:Nat,k<p->aI (ag l k).kd=true->Lx (bE l F k) (fq l F k) ug:=λk h1 h2=>(Jw h.sh h.ok.ex k (by omega) h2 F (by omega)).1
 rcases mE hk with e |e |e |e |e |e |e |e |e |e |e
 ·obtain⟨k,hks,hlt,hke⟩:=xq h hp (by omega);rw[l7 e,aR hks];have et:eF l F p=bu l p++[32,61,32]++bE l F k:=by unfold eF;rw[e,aR hks];simp
  rw[et];exact(((mU (gU h.sh hp (by omega))).app AA (λr _=>vW _)).app (hex k hlt hke) (λ_ _=>trivial)).of rfl rfl
 ·obtain⟨k,j,hks,hlt,hlt2,hke,hje⟩:=Nu h hp e;rw[l8 e,aR hks,dO hks];have et:eF l F p=bu l p++[91]++bE l F k++[93]++[32,61,32]++bE l F j:=by unfold eF;rw[e,aR hks,dO hks];simp
  rw[et];refine((((((mU (gU h.sh hp (by omega))).app R3 (λr _=>eO (by decide) r)).app (hex k hlt hke) (λ_ _=>trivial)).app R4 (λr _=>eO (by decide) r)).app AA (λ_ _=>trivial)).app (hex j hlt2 hje) (λ_ _=>trivial)).of rfl ?_;simp only[List.append_assoc,List.cons_append,List.nil_append]
 ·obtain⟨k,hks,hlt,hke⟩:=Nv h hp e;rw[l9 e,aR hks];have et:eF l F p=bu l p++([32,61,32]++(Cq++[32]))++bu l k:=by unfold eF;rw[e,aR hks];simp[Cq]
  rw[et];exact(((mU (gU h.sh hp (by omega))).app (AA.app (kX Cq (by decide) (by decide) (by decide)) (λ_ _=>trivial)) (λr _=>vW _)).app (Jz h.sh (by omega) (by omega)) (λ_ _=>trivial)).of rfl rfl
 ·obtain⟨k,j,hks,hlt,hlt2,hke,hje⟩:=Jk h hp e;rw[l10 e,aR hks,dO hks];have et:eF l F p=(nU++[32])++bu l k++[32]++bE l F j:=by unfold eF;rw[e,aR hks,dO hks];simp[nU]
  rw[et];exact((((kX nU (by decide) (by decide) (by decide)).app (Jz h.sh (by omega) (by omega)) (λ_ _=>trivial)).app qF (λr _=>vW _)).app (hex j hlt2 hje) (λ_ _=>trivial)).of rfl rfl
 ·obtain⟨k,j,i,hks,hlt,hlt2,hlt3,hke,hj6,hi6⟩:=Ca h hp e;rw[l11 e,aR hks];have et:eF l F p=(AR++[32])++bE l F k:=by unfold eF;rw[e,aR hks];simp[AR]
  rw[et];exact((kX AR (by decide) (by decide) (by decide)).app (hex k hlt hke) (λ_ _=>trivial)).of rfl rfl
 ·obtain⟨k,j,hks,hlt,hlt2,hke,hj6⟩:=Cb h hp e;rw[l12 e,aR hks];have et:eF l F p=(iO++[32])++bE l F k:=by unfold eF;rw[e,aR hks];simp[iO]
  rw[et];exact((kX iO (by decide) (by decide) (by decide)).app (hex k hlt hke) (λ_ _=>trivial)).of rfl rfl
 ·obtain⟨k,js,hks,hlt,hkk,hjs⟩:=Jm h hp e;rw[l13 e,aR hks,hks,List.tail_cons];have et:eF l F p=(if bu l p=[] then [] else bu l p++[32,61,32])++((dL++[32])++bu l k++nP (js.map (bE l F))):=by unfold eF;rw[e,aR hks,hks];simp[dL]
  rw[et];have h1:Lx ((dL++[32])++bu l k++nP (js.map (bE l F))) ([iT dL,jE (bu l k)]++qC (js.map (fq l F))) any:=
   (((kX dL (by decide) (by decide) (by decide)).app (Jz h.sh (by omega) (by omega)) (λ_ _=>trivial)).app (DJ js λj hj=>by
    obtain⟨x2,rfl,hx1,hx2⟩:=hjs j hj
    exact hex x2 hx1 hx2) (λr _=>eO (by decide) _)).of rfl rfl
  have htx:=(bR h.sh hp).tx;rw[e]at htx;by_cases h0:bu l p=[]
  ·rw[if_pos h0,if_pos h0];exact h1.weak (λ_ _=>trivial)
  ·rw[if_neg h0,if_neg h0];have hi:iB (bu l p)=true:=by simpa [iW,h0]using htx
   exact((((mU hi).app AA (λr _=>vW _)).app h1 (λ_ _=>trivial)).weak (λ_ _=>trivial)).of rfl rfl
 ·rw[l14 e];have hw:Lx dM [iT dM] ug:=vV dM (by decide) (by decide) (by decide);rcases Jn h hp e with hks |⟨k,hks,hlt,hke⟩
  ·have et:eF l F p=dM:=by unfold eF;rw[e,hks];simp[dM]
   rw[et,hks];exact hw
  ·have et:eF l F p=dM++[32]++bE l F k:=by unfold eF;rw[e,hks];simp[dM]
   rw[et,hks];refine(((hw.app qF (λr _=>vW _)).app (hex k hlt hke) (λ_ _=>trivial))).of rfl ?_;simp
 ·obtain⟨k,hks,hlt,hke⟩:=xq h hp (by omega);rw[l15 e,aR hks];have et:eF l F p=(jG++[32])++bE l F k:=by unfold eF;rw[e,aR hks];simp[jG]
  rw[et];exact((kX jG (by decide) (by decide) (by decide)).app (hex k hlt hke) (λ_ _=>trivial)).of rfl rfl
 ·rw[l16 e];have et:eF l F p=tV:=by unfold eF;rw[e];simp[tV]
  rw[et];exact vV tV (by decide) (by decide) (by decide)
 ·obtain⟨k,hks,hlt,hke⟩:=xq h hp (by omega);rw[l17 e,aR hks];have et:eF l F p=bu l p++([32,61,32]++(tX++[32]))++bE l F k:=by unfold eF;rw[e,aR hks];simp[tX]
  rw[et];exact(((mU (gU h.sh hp (by omega))).app (AA.app (kX tX (by decide) (by decide) (by decide)) (λ_ _=>trivial)) (λr _=>vW _)).app (hex k hlt hke) (λ_ _=>trivial)).of rfl rfl
theorem DK {l:List Tr.Nd}{b dd:Nat->Nat}(h:lD l b dd){st:Nat->Int->List UInt8}{sk:Int->List Tok}(d:Nat){p:Nat}(locals:List Int)(hl:∀k ∈ locals,∃q:Nat,k=(q:Int)/\q<l.length/\(ag l q).kd=5)(hs:∀k ∈ (ag l p).ks,Lx (st (d+1) k) (sk k) any):Lx (fM l st d p locals) (jQ l sk p locals) any:=by
 have h1:Lx [32,123,10] [bC [123]] any:=((qF.app R5 (λ_ _=>trivial)).app Ce (λ_ _=>trivial)).of rfl rfl;have h2:=uw (f:=jg l (d+1)) (g:=oP l) locals λk hk=>by
  obtain⟨q,rfl,hq,hq5⟩:=hl k hk;exact Jy h.sh (d+1) hq (Or.inr hq5)
 have h3:=uw (f:=st (d+1)) (g:=sk) (ag l p).ks hs;unfold fM jQ;refine(((((h1.app h2 (λ_ _=>trivial)).app h3 (λ_ _=>trivial)).app (qG d) (λ_ _=>trivial)).app R6 (λ_ _=>trivial))).of rfl ?_;simp only[List.append_assoc,List.cons_append,List.nil_append]
theorem Qj {l:List Tr.Nd}{b dd:Nat->Nat}(h:lD l b dd)(F:Nat)(hF:l.length<=F):∀p:Nat,p<l.length->dS (ag l p).kd=true->∀(f d:Nat),p<f->Lx (nL l F f d p) (fe l F f p) any:=by
 intro p;induction p using Nat.strongRecOn with
 |_ p ih=>
  intro hp hk f d hf;obtain⟨f,rfl⟩:∃f',f=f'+1:=⟨f-1,by omega⟩;rw[rG,tu];have hln:=Qi h hp hk F hF;have hbk:∀q:Nat,q<p->(ag l q).kd=6->Lx (fM l (nL l F f) d q []) (jQ l (fe l F f) q []) any:=λq hq h6=>DK h d [] (λk hk2=>by cases hk2) λk hk2=>by
   obtain⟨k2,rfl,h8,h9⟩:=h.ok.bl q (by omega) h6 k hk2;exact ih k2 (by omega) (by omega) h9 f (d+1) (by omega)
  have hbh:∀(q:Int) (ll:List Int) (r:List UInt8),ug (fM l (nL l F f) d q ll++r):=λq ll r=>by
   unfold fM;exact eO (by decide) _
  by_cases e11:(ag l p).kd=11
  ·obtain⟨k,j,i,hks,hlt,hlt2,hlt3,hke,hj6,hi6⟩:=Ca h hp e11;rw[if_pos e11,if_pos e11,dO hks,yo hks];have hB:=hbk j hlt2 hj6;have hC:Lx (if (ag l (i:Int)).ks=[] then [] else [32,101,108,115,101]++fM l (nL l F f) d i []) (if (ag l (i:Int)).ks=[] then [] else iT ku :: jQ l (fe l F f) i []) any:=by
    split
    ·exact vS
    ·have h1:Lx [32,101,108,115,101] [iT ku] ug:=(qF.app (vV ku (by decide) (by decide) (by decide)) (λ_ _=>trivial)).of rfl rfl;exact(h1.app (hbk i hlt3 hi6) (λr _=>hbh _ _ r)).of rfl rfl
   refine((((qG d).app hln (λ_ _=>trivial)).app (hB.app hC (λ_ _=>trivial)) (λr _=>by rw[List.append_assoc];exact hbh _ _ _)).app Ce (λ_ _=>trivial)).of rfl ?_;simp only[List.nil_append,List.append_nil]
  rw[if_neg e11,if_neg e11];by_cases e12:(ag l p).kd=12
  ·obtain⟨k,j,hks,hlt,hlt2,hke,hj6⟩:=Cb h hp e12;rw[if_pos e12,if_pos e12,dO hks];refine((((qG d).app hln (λ_ _=>trivial)).app (hbk j hlt2 hj6) (λr _=>hbh _ _ _)).app Ce (λ_ _=>trivial)).of rfl ?_;simp only[List.nil_append,List.append_nil]
  rw[if_neg e12,if_neg e12];by_cases e16:(ag l p).kd=16
  ·obtain⟨k,j,hks,hlt,hlt2,hk6,hj6⟩:=Jl h hp e16;rw[if_pos e16,if_pos e16,aR hks,dO hks];have h1:Lx [32,99,97,116,99,104,32] [iT mZ] any:=(qF.app (kX mZ (by decide) (by decide) (by decide)) (λ_ _=>trivial)).of rfl rfl;have hT:Lx (fM l (nL l F f) d k []++[32,99,97,116,99,104,32]++bu l p++fM l (nL l F f) d j []) (jQ l (fe l F f) k []++[iT mZ,jE (bu l p)]++jQ l (fe l F f) j []) any:=by
    refine((((hbk k hlt hk6).app h1 (λ_ _=>trivial)).app (mU (gU h.sh hp (by omega))) (λ_ _=>trivial)).app (hbk j hlt2 hj6) (λr _=>hbh _ _ r)).of rfl ?_;simp only[List.append_assoc,List.cons_append,List.nil_append]
   refine((((qG d).app hln (λ_ _=>trivial)).app hT (λr _=>by rw[List.append_assoc,List.append_assoc,List.append_assoc];exact hbh _ _ _)).app Ce (λ_ _=>trivial)).of rfl ?_;simp only[List.nil_append,List.append_nil]
  ·rw[if_neg e16,if_neg e16];refine((((qG d).app hln (λ_ _=>trivial)).app R7 (λr _=>eO (by decide) _)).app Ce (λ_ _=>trivial)).of rfl ?_;simp only[List.nil_append,List.append_nil]
theorem MQ {l:List Tr.Nd}{b dd:Nat->Nat}(h:lD l b dd)(F:Nat)(hF:l.length<=F){p:Nat}(hp:p<l.length)(hk:(ag l p).kd=3):Lx (nQ l F p) (mR l F p) any:=by
 obtain⟨ks,q,hks,hq,hq6,hall⟩:=h.ok.pr p hp hk;have hfl:(ag l p).ks.getLastD 0=(q:Int):=by rw[hks];simp
 have hkid:∀k ∈ (ag l p).ks,∃k2:Nat,k=(k2:Int)/\k2<p:=λk hk2=>bU h.ahead hp k hk2
 have hpar:=DJ (f:=lY l) (g:=oO l) ((ag l p).ks.filter λk=>(ag l k).kd==4) λk hk2=>by
  obtain⟨h1,h2⟩:=List.mem_filter.1 hk2;obtain⟨k2,rfl,h3⟩:=hkid k h1;have h4:(ag l k2).kd=4:=by simpa using h2
  exact AB h.sh (by omega) (by omega)
 have hn:0<=(ag l p).n/\(ag l p).n<=4:=by
  have:=(bR h.sh hp).num;unfold eQ at this;rw[if_neg (by omega),if_pos hk]at this;simpa using this
 have hB:=DK h (st:=nL l F F) (sk:=fe l F F) 0 (p:=q) ((ag l p).ks.filter λk=>(ag l k).kd==5) (λk hk2=>by
  obtain⟨h1,h2⟩:=List.mem_filter.1 hk2
  obtain⟨k2,rfl,h3⟩:=hkid k h1
  exact⟨k2,rfl,by omega,by simpa using h2⟩) λk hk2=>by
   obtain⟨k2,rfl,h8,h9⟩:=h.ok.bl q (by omega) hq6 k hk2;exact Qj h F hF k2 (by omega) h9 F 1 (by omega)
 have hbh:∀(ll:List Int) (r:List UInt8),ug (fM l (nL l F F) 0 q ll++r):=λll r=>by
  unfold fM;exact eO (by decide) _
 have hT:Lx (if (ag l p).n=0 then [] else [32]++qX (ag l p).n) (if (ag l p).n=0 then [] else [iT (qX (ag l p).n)]) ug:=by
  split
  ·exact vS.weak (λ_ _=>trivial)
  ·exact(qF.app (Nz (by omega) hn.2) (λ_ _=>trivial)).of rfl rfl
 unfold nQ mR;rw[hfl];refine(((((((kX kM (by decide) (by decide) (by decide)).app (mU (gU h.sh hp (by omega))) (λ_ _=>trivial)).app hpar (λr _=>eO (by decide) _)).app hT (λ_ _=>trivial)).app hB (λr _=>hbh _ r)).app Ce (λ_ _=>trivial))).of rfl ?_;simp only[List.append_nil,List.append_assoc,List.cons_append,List.nil_append]
theorem MR {l:List Tr.Nd}{b dd:Nat->Nat}(h:lD l b dd)(F:Nat)(hF:l.length<=F){p:Nat}(hp:p<l.length)(hk:(ag l p).kd=1):Lx (lG l F p) (vO l F p) any:=by
 unfold lG vO;refine uw (f:=λk=>if (ag l k).kd=2 then jg l 0 k else nQ l F k) (g:=λk=>if (ag l k).kd=2 then oP l k else mR l F k) _ λk hk2 =>?_
 obtain⟨k2,rfl,h1,h2⟩:=h.ok.pg p hp hk k hk2;by_cases e:(ag l k2).kd=2
 ·simp only[e,if_true];exact Jy h.sh 0 (by omega) (Or.inl e)
 ·have e3:(ag l k2).kd=3:=by omega
  show Lx (if (ag l k2).kd=2 then _ else _) (if (ag l k2).kd=2 then _ else _) any;rw[if_neg e,if_neg e];exact MQ h F hF (by omega) e3
theorem JA {x:List UInt8}{X:List Tok}{ok:List UInt8->Prop}(h:Lx x X ok)(h0:ok []):Tk.JN (Tk.fT x 0)=some ((X++[eT]).map SK):=by
 have:=h 0 [] h0;rw[List.append_nil]at this;rw[Tk.PS,this,List.map_append];rfl
end
namespace Vw
section
open Go Go.ChangeShapes Go.WideShapes Go.ChangeAt Go.RowKit Go.Deep
theorem cells3:Tryz.prog.cellsOf 3=1:=by kernel_rfl
theorem MS {α:Type}{P:Nat->α->Prop}{m:Nat}(d:α)(h:∀i,i<m->∃q,P i q):∃Q:Nat->α,∀i,i<m->P i (Q i):=
 ⟨λi=>if hi:i<m then (h i hi).choose else d,λi hi=>by
  show P i (dite (i<m) _ _)
  rw[dif_pos hi]
  exact(h i hi).choose_spec⟩
theorem AC (b off k:Nat):(⟨b,off,none⟩:Addr).add k=⟨b,off+k,none⟩:=by simp[Addr.add]
section
variable {H:Type} {enc:TypeId × Value->H} {W:World}
theorem Dg {n:Nat}{cs:List Value}{x:DataW H × List MemPlace}(h:DataW.trod enc Tryz.prog W 0 (λ_=>true) true n 35 cs=some x):∃(K:Option Addr) (ks:List Int) (c:Nat),cs=[.slice K ks.length c]/\Tr.Ints W K ks/\ks.length<=c:=by
 rcases open_slice Tryz.underlying35 h with⟨hcs,hx⟩ |⟨a,len,cap,m,n,D,Pl,hcs,_,hl,hm,hmm,hx,hcell⟩
 ·exact⟨none,[],0,hcs,(λh=>by simp at h),by simp⟩
 ·simp only[if_true]at hmm;subst hmm;have each:∀i,i<m->∃q:Int,W.cell? (a.add i)=some (.int .i64 q):=λi hi=>by
   obtain⟨cs',h1,h2⟩:=hcell i hi;rw[cells3]at h1;obtain⟨_,hlen,hc⟩:=World.cells?_some h1;obtain⟨q,hq,_,_⟩:=DataW.trod_int Tryz.underlying3 h2;refine⟨q,?_⟩;have:=hc 0 (by omega);subst hq;simpa [Addr.add]using this
  obtain⟨Q,hQ⟩:=MS 0 each;refine⟨some a,(List.range len).map Q,m,by rw[hcs];simp,λh0 =>?_,by simpa using hl⟩;have h0':0<m:=by simp at h0;omega
  obtain⟨b,off,spot⟩:=a;have hspot:spot=none:=by
   have:=World.cell?_spot (hQ 0 h0');simpa [Addr.add]using this
  subst hspot;refine⟨b,off,rfl,World.block_lt_of_cell? W _ (by have:=hQ 0 h0';rw[AC]at this;exact this),λj hj =>?_⟩;have hj':j<len:=by simpa using hj
  have:=hQ j (by omega);rw[AC]at this;rw[this];simp
end
end
end Vw
section
open Tr (Bx aa bt eH Ints dK aM bP gV lF dpt)
end
section
open Tr (Bx aa bt eH Ints dK aM bP gV lF dpt)
theorem Ql (a:List UInt8):(lZ a).toList=a:=by rw[ByteArray.toList_eq,vF]
end
section
open Tr (Bx aa bt eH Ints dK aM bP gV lF dpt)
theorem uy:(lZ []).toList.isEmpty=true:=by rw[Ql];rfl
end
section
open Tr (Bx aa bt eH Ints dK aM bP gV lF dpt nth kr xE)
theorem j3.caps {B:Nat}{w:World}{A:Option Addr}{l:List Tr.Nd}(h:j3 B w A l):uR w A l:=λp bA off K m c hp hA hc _ h2=>by
 have:=h.room hp hA hc;omega
theorem bD.nd {l m:List Tr.Nd}(h:bD l m)(k:Int):(ag l k).kd=(ag m k).kd/\(ag l k).n=(ag m k).n/\(ag l k).tx=(ag m k).tx/\(ag l k).ks=(ag m k).ks:=by
 by_cases hk:k.toNat<l.length
 ·obtain⟨hj,e⟩:=h.at_ k.toNat hk;have e1:ag l k=l[k.toNat]:=by unfold ag;exact Tr.jF hk
  have e2:ag m k=m[k.toNat]:=by unfold ag;exact Tr.jF hj
  rw[e1,e2];exact e
 ·have hm:¬k.toNat<m.length:=by rw[<- h.len];exact hk
  have e1:ag l k=⟨0,0,0,⟨#[]⟩,[]⟩:=by unfold ag Tr.nth;simp[List.getD,List.getElem?_eq_none (Nat.le_of_not_lt hk)]
  have e2:ag m k=⟨0,0,0,⟨#[]⟩,[]⟩:=by unfold ag Tr.nth;simp[List.getD,List.getElem?_eq_none (Nat.le_of_not_lt hm)]
  rw[e1,e2];exact⟨rfl,rfl,rfl,rfl⟩
section
variable {l m:List Tr.Nd} (h:bD l m)
include h
theorem bD.kd (k:Int):(ag l k).kd=(ag m k).kd:=(h.nd k).1
theorem bD.n (k:Int):(ag l k).n=(ag m k).n:=(h.nd k).2.1
theorem bD.tx (k:Int):bu l k=bu m k:=by unfold bu;rw[(h.nd k).2.2.1]
theorem bD.kss (k:Int):(ag l k).ks=(ag m k).ks:=(h.nd k).2.2.2
theorem bD.kid (k:Int)(i:Nat):aL l k i=aL m k i:=by unfold aL;rw[h.kss]
theorem bD.ex:∀(f:Nat) (p:Int),bE l f p=bE m f p
 |0,p=>rfl
 |f+1,p=>by
  have ih:=λp=>bD.ex f p
  have iho:∀p,qW l (bE l f) p=qW m (bE m f) p:=λp=>by unfold qW;rw[h.kd,ih]
  rw[mF,mF];simp only[h.kd,h.n,h.tx,h.kid,ih,iho]
theorem bD.ln (f:Nat)(p:Int):eF l f p=eF m f p:=by
 have he:=funext λp=>h.ex f p
 unfold eF;simp only[h.kd,h.tx,h.kid,h.kss,he]
theorem bD.ty (p:Int):lY l p=lY m p:=by unfold lY;rw[h.tx,h.n]
theorem bD.var (d:Nat)(p:Int):jg l d p=jg m d p:=by unfold jg;rw[h.ty]
theorem bD.blk {st st':Nat->Int->List UInt8}(hs:∀d p,st d p=st' d p)(d:Nat)(p:Int)(ll:List Int):fM l st d p ll=fM m st' d p ll:=by
 have e:st=st':=funext λd=>funext λp=>hs d p
 have e2:jg l (d+1)=jg m (d+1):=funext λp=>h.var (d+1) p
 unfold fM;rw[e,e2,h.kss]
theorem bD.st (F:Nat):∀(f d:Nat) (p:Int),nL l F f d p=nL m F f d p
 |0,d,p=>rfl
 |f+1,d,p=>by
  have ih:∀d p ll,fM l (nL l F f) d p ll=fM m (nL m F f) d p ll:=λd p ll=>h.blk (λd p=>bD.st F f d p) d p ll
  rw[rG,rG];simp only[h.kd,h.tx,h.kid,h.kss,h.ln,ih]
theorem bD.prc (F:Nat)(p:Int):nQ l F p=nQ m F p:=by
 have e1:lY l=lY m:=funext λp=>h.ty p
 unfold nQ;simp only[h.kd,h.tx,h.kss,h.n,e1,h.blk (λd p=>h.st F F d p)]
theorem bD.pgm (F:Nat)(p:Int):lG l F p=lG m F p:=by
 unfold lG;simp only[h.kss,h.kd,h.var,h.prc]
end
theorem Qq {l:List Tr.Nd}{r:Int}(hr:lF l r=true)(hx:sM l):∃b,lD l b (Tr.dpL l l.length)/\b (l.length-1)=0:=by
 have hok:=xg hr;obtain⟨b,h1,h2,h3,hS,h0⟩:=hok.snd;exact⟨b,⟨hS,hok.sh,hx,Tr.zf hS⟩,h0⟩
theorem vX {R:List Tok->Rs}{t:List UInt8}{us:List Tk.Tok}{v:List Int}{s:St}(hc:Tk.fT t 0=.ok us)(h:R (us.map um)=.ok v s)(h4:s.nd.length<=4000)(hd:dpt (s.nd.map df) ((s.nd.length:Int)-1)<=40):eG R t=.good s.nd s.mo:=by
 rw[j5 hc h,if_neg (by omega),if_neg (by omega)]
theorem JB (x:ByteArray):Tk.bs x.data.toList=x:=by
 apply ByteArray.ext;apply Array.toList_inj.1;simp[Tk.bs]
theorem Cf {l:List Tr.Nd}{r:Int}(hr:lF l r=true)(hx:sM l):∃nd k,eG iH (eZ l r)=.good nd k/\bD (nd.map df) l/\(nd.length:Int)-1=r:=by
 have hok:=xg hr;obtain⟨b,hP,h0⟩:=Qq hr hx;obtain⟨h1,h2,h3⟩:=jr hok.snd;have hrn:r=((l.length-1:Nat):Int):=by omega
 have hroot:=hok.root;have hdep:Tr.dpL l l.length (l.length-1)<=40:=by
  have:=hok.dep
  rwa [Tr.jR hok.snd]at this
 have eT2:eZ l r=lG l l.length ((l.length-1:Nat):Int):=by unfold eZ;rw[hr,hrn];rfl
 have hlex:=JA (MR hP l.length (Nat.le_refl _) (p:=l.length-1) (by omega) hroot) trivial;rw[<- eT2]at hlex;obtain⟨us,hc,hus⟩:=Tk.I9 hlex;obtain⟨n,m,hrd⟩:=E5 hP (Nat.le_refl _) h1 h0 hroot (by omega);have her:(us.map um).map je=(vO l l.length ((l.length-1:Nat):Int)++[eT]).map je:=by
  rw[Nt,hus,List.map_map];rfl
 have h5:=Mv her;rw[hrd]at h5;obtain⟨s',hs',hse⟩:=I_ h5;have hnd:s'.nd.map JM=(l.map (Ja 0)).map JM:=by
  have:=congrArg St.nd hse;exact this
 have hlen:s'.nd.length=l.length:=by have:=congrArg List.length hnd;simpa using this
 have hlike:bD (s'.nd.map df) l:=by
  have e2:(s'.nd.map JM).map (λx=>(x.kd,x.n,Tk.bs x.tx,x.ks))=l.map (λx=>(x.kd,x.n,x.tx,x.ks)):=by
   rw[hnd,List.map_map,List.map_map];refine List.map_congr_left λx _ =>?_
   show(x.kd,x.n,Tk.bs x.tx.data.toList,x.ks.map (· + 0))=_;rw[JB];simp
  unfold bD;rw[<- e2,List.map_map,List.map_map];rfl
 have hdp:dpt (s'.nd.map df) ((s'.nd.length:Int)-1)=dpt l r:=by rw[hlike.dpt,hlen,h3]
 refine⟨s'.nd,s'.mo,vX hc hs' (by omega) (by rw[hdp];exact hok.dep),hlike,by omega⟩
end
section
set_option maxRecDepth 100000
open Tr (Bx aa bt au aP ax aA bP dW)
theorem JC (s:ByteArray)(w:World)(hs:20000<s.size):Calls Tryz.prog 99 #[.string s] w (bP (.tuple #[.slice none 0 0,.int .i64 0,.int .i64 7]) w):=by
 have hz:(20000:Int)<(s.size:Int):=by omega
 go_enter Tryz.func99,Tryz.ntmps99
 go_wp2;exact bodyPost_ret (v :=.tuple #[.slice none 0 0,.int .i64 0,.int .i64 7]) (by simp[results,Tryz.results99,go_sem]) rfl ⟨rfl,Below.refl _ _⟩
theorem Fb (s:ByteArray)(w:World)(hs:20000<s.size):Calls Tryz.prog 54 #[.string s,.func (.func 55) #[] #[]] w (j4 (.bad 0 7) w):=by
 have hb0:Below w.heap.size w (w.alloc (.cells #[.slice none 0 0,.int .i64 0,.int .i64 0,.int .i64 0,.int .i64 0] 56)):=aa _ _;have HP:=hid (JC s (w.alloc (.cells #[.slice none 0 0,.int .i64 0,.int .i64 0,.int .i64 0,.int .i64 0] 56)) hs);obtain⟨a,ha⟩:∃a,a=t_.bad 0 7:=⟨_,rfl⟩;rw[<- ha];have HA:=hid ha;have HB0:=hid hb0;clear ha hs hb0;go_enter Tryz.func54,Tryz.ntmps54
 go_wp2_with (go_at_call 99;refine HP.out.mono ?_);rintro e w1 ⟨rfl,hb1⟩;have hB:=(Bx.new w 56 [.slice none 0 0,.int .i64 0,.int .i64 0,.int .i64 0,.int .i64 0]).below hb1 (Bx.new w 56 _).lt;have HB:=hid (And.intro hB (bt HB0.out hb1));clear hb1;have c0:=(hB.cell 0).trans rfl;have c1:=(hB.cell 1).trans rfl;have c2:=(hB.cell 2).trans rfl;have c3:=(hB.cell 3).trans rfl;have c4:=(hB.cell 4).trans rfl;have f0:=hB.frozen 0;have f1:=hB.frozen 1;have f2:=hB.frozen 2;have f3:=hB.frozen 3;have f4:=hB.frozen 4;clear hB;go_wp2;obtain⟨hE,hbE⟩:=Ey HB.out.1 HB.out.2 (Nat.le_refl _) (.slice none 0 0) (.int .i64 0) (.int .i64 0) (.int .i64 (((0:Nat):Int))) (.int .i64 (((7:Nat):Int)));have z0:=(hE.cell 0).trans rfl;have z1:=(hE.cell 1).trans rfl;have z2:=(hE.cell 2).trans rfl;have z3:=(hE.cell 3).trans rfl;have z4:=(hE.cell 4).trans rfl;generalize ((((w1.setCell ⟨w.heap.size,0,none⟩ (.slice none 0 0)).setCell ⟨w.heap.size,1,none⟩ (.int .i64 0)).setCell ⟨w.heap.size,2,none⟩ (.int .i64 0)).setCell ⟨w.heap.size,3,none⟩ (.int .i64 (((0:Nat):Int)))).setCell ⟨w.heap.size,4,none⟩ (.int .i64 (((7:Nat):Int)))=W9 at *
 exact bodyPost_ret (v :=.agg #[.slice none 0 0,.int .i64 0,.int .i64 0,.int .i64 (((0:Nat):Int)),.int .i64 (((7:Nat):Int))]) (by simp[results,Tryz.f54,go_sem,z0,z1,z2,z3,z4]) rfl (ow (p:=0) (er:=7) HA.out hbE)
theorem y7 (s:ByteArray)(w:World)(hs:20000<s.size):Calls Tryz.prog 16 #[.string s] w (jw (.bad 0 7) w):=by
 have hb0:Below w.heap.size w (w.alloc (.cells #[.slice none 0 0,.int .i64 0] 25)):=aa _ _;have HC:=hid ((Fb s (w.alloc (.cells #[.slice none 0 0,.int .i64 0] 25)) hs).mono λ_ _ q=>q.g);generalize t_.bad 0 7=a at *
 clear hs;go_enter Tryz.func16,Tryz.ntmps16
 go_wp2_with (go_at_call 54;refine HC.out.mono ?_);rintro e w1 ⟨A,n,c,r,m,p,er,rfl,hb1,hA⟩;obtain⟨W4,hW4⟩:∃W4,w1.alloc (.cells #[.slice A n c,.int .i64 r,.int .i64 m,.int .i64 p,.int .i64 er] 56)=W4:=⟨_,rfl⟩;have hb4:Below w1.heap.size w1 W4:=by rw[<- hW4];exact aa _ _
 have hR4:Bx W4 w1.heap.size 56 [.slice A n c,.int .i64 r,.int .i64 m,.int .i64 p,.int .i64 er]:=by rw[<- hW4];exact Bx.new w1 56 _
 have hT1:=(Bx.new w 25 [.slice none 0 0,.int .i64 0]).below hb1 (Bx.new w 25 _).lt;have hT4:=hT1.below hb4 hT1.lt;have hA4:=(hA.mono (B':=w.heap.size+1) (by rw[World.size_alloc];exact Nat.le_refl _)).fr (E:=λ_=>False) (Fr.of hb4) (λ_ q=>q.elim);have HX:=hid (And.intro (bt (bt hb0 hb1) hb4) (And.intro hR4 (And.intro hT4 (And.intro hA4 hT1.lt))));have HW4:=hid hW4;clear hb1 hA hb4 hR4 hT1 hT4 hA4 hW4 hb0
 go_upto_region 2 with(fail)
 rw[HW4.out];obtain⟨hb4,hR4,hT4,hA4,hlt⟩:=HX.out;obtain⟨W5,hW5⟩:∃W5:World,{W4 with drawn:=W4.drawn+1}=W5:=⟨_,rfl⟩;have hT5:Bx W5 w.heap.size 25 [.slice none 0 0,.int .i64 0]:=by rw[<- hW5];exact hT4
 have hS:Bx W5 w1.heap.size 56 [.slice A n c,.int .i64 r,.int .i64 m,.int .i64 p,.int .i64 er]/\∃u0 u1,Bx W5 w.heap.size 25 [u0,u1]:=⟨by rw[<- hW5];exact hR4,_,_,hT5⟩;have hb5:Below w.heap.size w W5:=by rw[<- hW5];exact dW hb4
 have hA5:mK a (w.heap.size+1) W5 A n c r m p er:=by rw[<- hW5];exact hA4.fr (E:=λ_=>False) (Fr.of (dW (Below.refl _ _))) (λ_ q=>q.elim)
 have hne:w1.heap.size≠w.heap.size:=by omega
 refine wp_region_held (S:=λw'=>Bx w' w1.heap.size 56 [.slice A n c,.int .i64 r,.int .i64 m,.int .i64 p,.int .i64 er]/\∃u0 u1,Bx w' w.heap.size 25 [u0,u1]) (by kernel_rfl) ?_;rw[hW5];clear hW5 hb4 hR4 hT4 hA4 HX HW4 HC;refine aG 0 (.pointer (some ⟨w1.heap.size,0,none⟩)) (by kernel_rfl) rfl rfl (λ_ _ _ h=>h) rfl (ay rfl rfl (lT _)) hS ?_;simp only[ap];refine aG 1 (.agg #[.slice A n c,.int .i64 r]) (by kernel_rfl) rfl rfl (λ_ _ _ h=>h) rfl (ak rfl rfl (λw' q=>qo ((q.1.cell 0).trans rfl) ((q.1.cell 1).trans rfl))) hS ?_;simp only[ap];refine aG 2 (.pointer (some ⟨w1.heap.size,3,none⟩)) (by kernel_rfl) rfl rfl (λ_ _ _ h=>h) rfl (ay rfl rfl (gq _)) hS ?_;simp only[ap];refine aG 3 (.pointer (some ⟨w1.heap.size,3,none⟩)) (by kernel_rfl) rfl rfl (λ_ _ _ h=>h) rfl (ay rfl rfl (lU _)) hS ?_;simp only[ap];refine aG 4 (.int .i64 p) (by kernel_rfl) rfl rfl (λ_ _ _ h=>h) rfl (ak rfl rfl (λw' q=>aB ((q.1.cell 3).trans rfl))) hS ?_;simp only[ap];refine aG 5 (.pointer (some ⟨w1.heap.size,3,none⟩)) (by kernel_rfl) rfl rfl (λ_ _ _ h=>h) rfl (ay rfl rfl (gq _)) hS ?_;simp only[ap];refine aG 6 (.pointer (some ⟨w1.heap.size,4,none⟩)) (by kernel_rfl) rfl rfl (λ_ _ _ h=>h) rfl (ay rfl rfl (lV _)) hS ?_;simp only[ap];refine aG 7 (.int .i64 er) (by kernel_rfl) rfl rfl (λ_ _ _ h=>h) rfl (ak rfl rfl (λw' q=>qm ((q.1.cell 4).trans rfl))) hS ?_
 simp only[ap];have hT6:=(hT5.set_ 0 (.slice A n c)).set_ 1 (.int .i64 r);simp only[List.set_cons_zero,List.set_cons_succ]at hT6;have hS6:=(hS.1.far (p:=⟨w.heap.size,0,none⟩) hne (.slice A n c)).far (p:=⟨w.heap.size,1,none⟩) hne (.int .i64 r);have hF6:Fr (λb=>b=w.heap.size) W5 ((W5.setCell ⟨w.heap.size,0,none⟩ (.slice A n c)).setCell ⟨w.heap.size,1,none⟩ (.int .i64 r)):=(Fr.set (E:=λb=>b=w.heap.size) (Fr.refl _ _) rfl _).set rfl _;have hb6:=(hb5.setCell (p:=⟨w.heap.size,0,none⟩) (Nat.le_refl _) (.slice A n c)).setCell (p:=⟨w.heap.size,1,none⟩) (Nat.le_refl _) (.int .i64 r);refine dQ 8 ({dst:=none,op:=Op.store 25 (Operand.tmp 2) (Operand.tmp 9),type:=0,pos := "parse.go:13",after := #[{on:=1,ground:=Ground.data},{on:=0,ground:=Ground.phase},{on:=1,ground:=Ground.phase},{on:=2,ground:=Ground.textOnly Departure.lateStores},{on:=3,ground:=Ground.textOnly Departure.lateStores},{on:=4,ground:=Ground.textOnly Departure.lateStores},{on:=5,ground:=Ground.textOnly Departure.lateStores},{on:=6,ground:=Ground.textOnly Departure.lateStores},{on:=7,ground:=Ground.textOnly Departure.lateStores}],guard:=none}:Oper) rfl (by kernel_rfl) rfl (uo rfl rfl rfl hT5 ⟨⟨hS6,_,_,hT6⟩,?_⟩);simp only[Act.put]
 have hS9:Bx ((W5.setCell ⟨w.heap.size,0,none⟩ (.slice A n c)).setCell ⟨w.heap.size,1,none⟩ (.int .i64 r)) w1.heap.size 56 [.slice A n c,.int .i64 r,.int .i64 m,.int .i64 p,.int .i64 er]/\∃u0 u1,Bx ((W5.setCell ⟨w.heap.size,0,none⟩ (.slice A n c)).setCell ⟨w.heap.size,1,none⟩ (.int .i64 r)) w.heap.size 25 [u0,u1]:=⟨hS6,_,_,hT6⟩;refine aG 9 (.int .i64 p) (by kernel_rfl) rfl rfl (λ_ _ _ h=>h) rfl (di rfl rfl) hS9 ?_;simp only[ap];refine aG 10 (.int .i64 er) (by kernel_rfl) rfl rfl (λ_ _ _ h=>h) rfl (di rfl rfl) hS9 ?_;simp only[ap];refine wpAnyH_done (by kernel_rfl) ?_ _;have hA6:=(hA5.fr hF6 (λb q=>by omega)).mono (B':=w.heap.size) (by omega);have z0:=(hT6.cell 0).trans rfl;have z1:=(hT6.cell 1).trans rfl;generalize (W5.setCell ⟨w.heap.size,0,none⟩ (.slice A n c)).setCell ⟨w.heap.size,1,none⟩ (.int .i64 r)=W6 at *
 have HE:=hid (And.intro hb6 hA6);clear hb6 hA6 hT6 hS6 hS9 hF6 hS hT5 hA5 hb5 hne hlt;go_wp2;exact bodyPost_ret (v :=.tuple #[.agg #[.slice A n c,.int .i64 r],.int .i64 p,.int .i64 er]) (by simp[results,Tryz.f16,go_sem,z0,z1]) rfl ⟨A,n,c,r,m,p,er,rfl,HE.out.1,HE.out.2⟩
end
section
open Tr (Bx aa bt eH Ints dK aM bP gV lF dpt)
structure Bk (l:List Tr.Nd) (r:Int) (y:List UInt8) (nd:List Nd):Prop where
 like:bD l (nd.map df)
 len:nd.length=l.length
 root:(nd.length:Int)-1=r
 same:eZ (nd.map df) r=y
 right:lF (nd.map df) r=true
 kids:∀x ∈ nd.map df,x.ks.length<=4000
 text:∀x ∈ nd.map df,x.tx.size<=281474976710656
 num:∀x ∈ nd.map df,x.n<=9223372036854775807
theorem AJ {l:List Tr.Nd}{r:Int}(hr:lF l r=true)(hx:sM l):∃nd k,eG iH (eZ l r)=.good nd k/\Bk l r (eZ l r) nd:=by
 obtain⟨nd,k,ha,hL,hroot⟩:=Cf hr hx;have hc:∃us,Tk.fT (eZ l r) 0=.ok us:=by
  cases e:Tk.fT (eZ l r) 0 with
  |bad p=>rw[kJ e]at ha;cases ha
  |ok us=>exact⟨us,rfl⟩
 obtain⟨us,hc⟩:=hc;have hR:=qw hc ha;have hlen:nd.length=l.length:=by have:=hL.len;rwa [List.length_map]at this
 have hright:lF (nd.map df) r=true:=by rw[<- hroot];exact hR.right
 refine⟨nd,k,ha,hL.symm,hlen,hroot,?_,hright,hR.kids,hR.text,hR.num⟩;unfold eZ;rw[hright,hr,if_pos rfl,if_pos rfl,hL.pgm,List.length_map,hlen]
theorem Bk.tin {l:List Tr.Nd}{r:Int}{y:List UInt8}{nd:List Nd}(h:Bk l r y nd){B:Nat}{w:World}{A:Option Addr}(hN:j3 B w A (nd.map df))(hT:Tb w):BK w A l.length (nd.map df):=
 ⟨hN.nds,by rw[List.length_map];exact h.len.symm,h.kids,h.text,h.num,hN.caps,hT⟩
end
end Go.Proofs.YteecfjhjllajlaaGreatDoor
