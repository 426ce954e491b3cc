/- PROVED: TkQ TkX. No more condition. -/
import Derived.Test.YteecfjhjllajlaaGreatDoorM21
import Derived.Lib.Join
namespace Go.Proofs.YteecfjhjllajlaaGreatDoor.Tk
open Go Go.RowKit
def pc:List UInt8->List UInt8
 | []=>[]
 |c :: t=>if wdB c then c :: t.takeWhile wdB else match t with
  | []=>[c]
  |d :: _=>if dJ [c,d] then [c,d] else [c]
theorem qh (c:UInt8)(t:List UInt8):1<=(pc (c :: t)).length:=by
 cases t with
 |nil=>simp only[pc];split<;>simp
 |cons d t=>
  simp only[pc];split
  ·simp
  ·split<;>simp
def Hr (i:Nat)(w:List UInt8):Tok:=⟨dh w,jT w,i,w⟩
def zI:Nat->Nat->List UInt8->xU
 |0,i,_ =>.ok [qc i]
 |_+1,i,[] =>.ok [qc i]
 |f+1,i,c :: t=>
  if j_ c then zI f (i+1) t
  else if o_ c then zI f (i+1+(t.takeWhile vK).length) (t.dropWhile vK)
  else if dh (pc (c :: t))=0 then .bad i
  else (zI f (i+(pc (c :: t)).length) ((c :: t).drop (pc (c :: t)).length)).pre [Hr i (pc (c :: t))]
theorem nu {q:UInt8->Bool}(t:List UInt8):(t.dropWhile q).length<=t.length:=(List.dropWhile_suffix q).length_le
theorem mr:∀(f i:Nat) (r:List UInt8) (g:Nat),r.length<=f->r.length<=g->zI f i r=zI g i r
 |0,i,[],0,_,_=>rfl
 |0,i,[],g+1,_,_=>rfl
 |f+1,i,[],0,_,_=>rfl
 |f+1,i,[],g+1,_,_=>rfl
 |f+1,i,c :: t,g+1,h1,h2=>by
  have a1:t.length<=f:=by simpa using h1
  have a2:t.length<=g:=by simpa using h2
  have hd:=nu (q:=vK) t;have hp:=qh c t;have hl:((c :: t).drop (pc (c :: t)).length).length<=t.length:=by rw[List.length_drop,List.length_cons];omega
  simp only[zI];rw[mr f (i+1) t g a1 a2,mr f _ (t.dropWhile vK) g (by omega) (by omega),mr f _ ((c :: t).drop (pc (c :: t)).length) g (by omega) (by omega)]
def kW (i:Nat)(r:List UInt8):xU:=zI r.length i r
theorem oU (i:Nat)(c:UInt8)(t:List UInt8):kW i (c :: t)=if j_ c then kW (i+1) t
  else if o_ c then kW (i+1+(t.takeWhile vK).length) (t.dropWhile vK)
  else if dh (pc (c :: t))=0 then .bad i
  else (kW (i+(pc (c :: t)).length) ((c :: t).drop (pc (c :: t)).length)).pre [Hr i (pc (c :: t))]:=by
 have hd:=nu (q:=vK) t;have hp:=qh c t;have hl:((c :: t).drop (pc (c :: t)).length).length<=t.length:=by rw[List.length_drop,List.length_cons];omega
 unfold kW;rw[List.length_cons];simp only[zI];rw[mr t.length _ (t.dropWhile vK) (t.dropWhile vK).length (by omega) (by omega),mr t.length _ ((c :: t).drop (pc (c :: t)).length) ((c :: t).drop (pc (c :: t)).length).length (by omega) (by omega)]
theorem rE {i:Nat}{c:UInt8}{t:List UInt8}(h:j_ c=true):kW i (c :: t)=kW (i+1) t:=by rw[oU,if_pos h]
theorem ym {i:Nat}{c:UInt8}{t:List UInt8}(h1:j_ c=false)(h2:o_ c=true):kW i (c :: t)=kW (i+1+(t.takeWhile vK).length) (t.dropWhile vK):=by
 rw[oU,if_neg (by rw[h1];simp),if_pos h2]
theorem ve {i:Nat}{c:UInt8}{t:List UInt8}(h1:j_ c=false)(h2:o_ c=false)(h3:dh (pc (c :: t))=0):kW i (c :: t)=.bad i:=by
 rw[oU,if_neg (by rw[h1];simp),if_neg (by rw[h2];simp),if_pos h3]
theorem rF {i:Nat}{c:UInt8}{t:List UInt8}(h1:j_ c=false)(h2:o_ c=false)(h3:dh (pc (c :: t))≠0) :
  kW i (c :: t)=(kW (i+(pc (c :: t)).length) ((c :: t).drop (pc (c :: t)).length)).pre [Hr i (pc (c :: t))]:=by
 rw[oU,if_neg (by rw[h1];simp),if_neg (by rw[h2];simp),if_neg h3]
theorem sZ:∀(i:Nat) (t:List UInt8),kW (i+(t.takeWhile j_).length) (t.dropWhile j_)=kW i t
 |i,[]=>rfl
 |i,c :: t=>by
  by_cases h:j_ c=true
  ·rw[List.takeWhile_cons,List.dropWhile_cons,if_pos h,if_pos h,rE h,List.length_cons,<- sZ (i+1) t];congr 1;omega
  ·rw[List.takeWhile_cons,List.dropWhile_cons,if_neg h,if_neg h];rfl
theorem drop_tw {q:UInt8->Bool}:∀t:List UInt8,t.drop (t.takeWhile q).length=t.dropWhile q
 | []=>rfl
 |c :: t=>by
  by_cases h:q c=true
  ·rw[List.takeWhile_cons,List.dropWhile_cons,if_pos h,if_pos h,List.length_cons,List.drop_succ_cons,drop_tw t]
  ·rw[List.takeWhile_cons,List.dropWhile_cons,if_neg h,if_neg h];rfl
theorem CF {q:UInt8->Bool}:∀t:List UInt8,t.take (t.takeWhile q).length=t.takeWhile q
 | []=>rfl
 |c :: t=>by
  by_cases h:q c=true
  ·rw[List.takeWhile_cons,if_pos h,List.length_cons,List.take_succ_cons,CF t]
  ·rw[List.takeWhile_cons,if_neg h];rfl
theorem drop_at {l:List UInt8}{p:Nat}(h:p<l.length):l.drop p=l.getD p 0 :: l.drop (p+1):=by
 rw[List.drop_eq_getElem_cons h,List.getD_eq_getElem?_getD,List.getElem?_eq_getElem h];rfl
theorem Ld {l:List UInt8}{p:Nat}(h:p<l.length)(h1:j_ (l.getD p 0)=false)(h2:o_ (l.getD p 0)=false):sub l p (jk l p)=pc (l.drop p)/\jk l p=p+(pc (l.drop p)).length:=by
 unfold sub jk;rw[drop_at h];generalize hc:l.getD p 0=c at *
 simp only[h1,h2,Bool.false_eq_true,if_false,pc];by_cases h3:wdB c=true
 ·rw[if_pos h3,if_pos h3];refine⟨?_,by simp;omega⟩;rw[show p+1+((l.drop (p+1)).takeWhile wdB).length-p=((l.drop (p+1)).takeWhile wdB).length+1 by omega,List.take_succ_cons,CF]
 ·rw[if_neg h3,if_neg h3];cases ht:l.drop (p+1) with
  |nil=>
   have:¬p+1<l.length:=by
    have:=congrArg List.length ht;simp at this;omega
   rw[if_neg (λhh=>this hh.2)];simp
  |cons d t=>
   have hl:p+1<l.length:=by
    have:=congrArg List.length ht;simp at this;omega
   have e:List.take 2 (c :: d :: t)=[c,d]:=rfl;rw[e];by_cases h4:dJ [c,d]=true
   ·simp only[h4,hl];simp;rw[show p+1+1-p=2 by omega];rfl
   ·rw[if_neg (λhh=>h4 hh.1)];simp only[h4];simp
theorem wL (l:List UInt8):∀(n p:Nat),l.length-p<=n->p<=l.length->iF l p=kW p (l.drop p)
 |n,p,hn,hp=>by
  by_cases h:p<l.length
  ·have hB:=fD h;rw[oO h];cases n with
   |zero=>omega
   |succ n=>
    have ih:=wL l n (jk l p) (by omega) hB.2;rw[ih];cases h1:j_ (l.getD p 0)
    ·cases h2:o_ (l.getD p 0)
     ·obtain⟨e1,e2⟩:=Ld h h1 h2;simp only[Bool.or_false,Bool.false_eq_true,if_false];by_cases h3:dh (pc (l.drop p))=0
      ·rw[e1,if_pos h3,drop_at h];rw[drop_at h]at h3;rw[ve h1 h2 h3]
      ·rw[e1,if_neg h3];unfold tH;rw[e1,e2];rw[drop_at h]at h3 |-;rw[rF h1 h2 h3,<- drop_at h,List.drop_drop];rfl
     ·simp only[Bool.or_true,if_true];rw[drop_at h,ym h1 h2];have e2:jk l p=p+1+((l.drop (p+1)).takeWhile vK).length:=by unfold jk;simp only[h1,h2,Bool.false_eq_true,if_false,if_true]
      rw[e2,<- drop_tw,List.drop_drop]
    ·simp only[Bool.true_or,if_true];rw[drop_at h,rE h1,<- sZ (p+1) (l.drop (p+1))];have e2:jk l p=p+1+((l.drop (p+1)).takeWhile j_).length:=by unfold jk;simp only[h1,if_true]
     rw[e2,<- drop_tw,List.drop_drop]
  ·have:p=l.length:=by omega
   subst this;rw[zx h,List.drop_length];rfl
theorem Oj (l:List UInt8):iF l 0=kW 0 l:=wL l l.length 0 (by omega) (by omega)
theorem Ht {c d:UInt8}(h:dJ [c,d]=true):d=61\/d=38\/d=124:=by
 simp only[dJ,Bool.or_eq_true,beq_iff_eq,List.cons.injEq,and_true,reduceCtorEq,and_false,or_false,false_or]at h;rcases h with((((⟨_,h⟩ |⟨_,h⟩) |⟨_,h⟩) |⟨_,h⟩) |⟨_,h⟩) |⟨_,h⟩<;>simp[h]
def bulk (ts:List Tok):Nat:=(ts.map λt=>t.s.length).sum
def strip (t:Tok):Nat × Int × List UInt8:=(t.k,t.n,t.s)
theorem lW.some {w:World}{A:Option Addr}{ts:List Tok}(h:lW w A ts)(h0:0<ts.length):∃b off,A=some ⟨b,off,none⟩/\b<w.heap.size:=by
 obtain⟨b,off,e,hb,_⟩:=h h0;exact⟨b,off,e,hb⟩
section
open Go.Shelf
structure QG where
 k:Int
 n:Int
 p:Int
 s:List UInt8
def Hu (w:World)(A:Option Addr)(ts:List QG):Prop:=
 0<ts.length->∃b off,A=some ⟨b,off,none⟩/\b<w.heap.size/\∀j (hj:j<ts.length),w.cell? ⟨b,off+j*4,none⟩=some (.int .i64 ts[j].k)/\w.cell? ⟨b,off+j*4+1,none⟩=some (.int .i64 ts[j].n) /\
  w.cell? ⟨b,off+j*4+2,none⟩=some (.int .i64 ts[j].p)/\w.cell? ⟨b,off+j*4+3,none⟩=some (.string (bs ts[j].s))
theorem Hu.below {w w':World}{A:Option Addr}{ts:List QG}(h:Hu w A ts)(hb:Below w.heap.size w w'):Hu w' A ts:=λh0=>by
 obtain⟨b,off,e,hl,hc⟩:=h h0;refine⟨b,off,e,Nat.lt_of_lt_of_le hl hb.size,λj hj =>?_⟩;obtain⟨c0,c1,c2,c3⟩:=hc j hj;exact⟨(hb.cell (p:=⟨b,off+j*4,none⟩) hl).trans c0,(hb.cell (p:=⟨b,off+j*4+1,none⟩) hl).trans c1,(hb.cell (p:=⟨b,off+j*4+2,none⟩) hl).trans c2,(hb.cell (p:=⟨b,off+j*4+3,none⟩) hl).trans c3⟩
end
end Go.Proofs.YteecfjhjllajlaaGreatDoor.Tk
