/- PROVED: TrTw. No more condition. -/
import Derived.Test.YteecfjhjllajlaaGreatDoorM03
namespace Go.Proofs.YteecfjhjllajlaaGreatDoor.Tr
open Go.Lib (hid)
section
set_option maxHeartbeats 1500000
set_option maxRecDepth 100000
open Go Go.RowKit
def bP (v:Value)(w:World)(e:Ending)(w':World):Prop:=e=.returned v/\Below w.heap.size w w'
theorem jN (k:Int)(w:World):Calls Tryz.prog 205 #[.int .i64 k] w (λe w'=>∃g,e=.returned (.func (.func 249) #[] #[.pointer (some ⟨g,0,none⟩)])/\Bx w' g 3 [.int .i64 k]/\w.heap.size<=g/\Below w.heap.size w w'):=by
 go_enter Tryz.func205,Tryz.ntmps205
 go_wp2
 go_ret
 exact⟨w.heap.size,rfl,Bx.new w 3 _,Nat.le_refl _,aa _ _⟩
theorem fI (F:Fn)(xs ys:Array Value)(w:World):Calls Tryz.prog 203 #[.func F xs ys] w (bP (.agg #[.func F xs ys,.int .i64 1,.int .i64 1]) w):=by
 obtain⟨W,hW⟩:∃W,w.alloc (.cells #[.nilFunc,.int .i64 0,.int .i64 0] 168)=W:=⟨_,rfl⟩;have hb:Below w.heap.size w W:=by rw[<- hW];exact aa _ _
 have hB:Bx W w.heap.size 168 [.nilFunc,.int .i64 0,.int .i64 0]:=by rw[<- hW];exact Bx.new w 168 _
 have hE:=((hB.set_ 0 (.func F xs ys)).set_ 1 (.int .i64 1)).set_ 2 (.int .i64 1);have hb2:=((hb.setCell (p:=⟨w.heap.size,0,none⟩) (Nat.le_refl _) (.func F xs ys)).setCell (p:=⟨w.heap.size,1,none⟩) (Nat.le_refl _) (.int .i64 1)).setCell (p:=⟨w.heap.size,2,none⟩) (Nat.le_refl _) (.int .i64 1);have HH:=hid (And.intro hE hb2);have c0:=hB.cell 0;have c1:=hB.cell 1;have c2:=hB.cell 2;have f0:=hB.frozen 0;have f1:=hB.frozen 1;have f2:=hB.frozen 2;simp only[List.getElem?_cons_zero,List.getElem?_cons_succ]at c0 c1 c2;clear hE hb2 hb hB;have hst:(store ⟨w.heap.size,0,none⟩ (.func F xs ys)).run Tryz.prog W=.ok () (W.setCell ⟨w.heap.size,0,none⟩ (.func F xs ys)):=by
  rw[run_store _ _ _ _ _ rfl,c0];simp[f0]
 go_enter Tryz.func203,Tryz.ntmps203
 go_wp2;obtain⟨hE,hb2⟩:=HH.out;have r0:=hE.cell 0;have r1:=hE.cell 1;have r2:=hE.cell 2;simp only[List.set_cons_zero,List.set_cons_succ,List.getElem?_cons_zero,List.getElem?_cons_succ]at r0 r1 r2;generalize ((W.setCell ⟨w.heap.size,0,none⟩ (.func F xs ys)).setCell ⟨w.heap.size,1,none⟩ (.int .i64 1)).setCell ⟨w.heap.size,2,none⟩ (.int .i64 1)=W3 at *
 exact bodyPost_ret (v :=.agg #[.func F xs ys,.int .i64 1,.int .i64 1]) (by simp[results,Tryz.f203,go_sem,r0,r1,r2]) rfl ⟨rfl,hb2⟩
theorem mH (F:Fn)(xs ys:Array Value)(w:World):Calls Tryz.prog 208 #[.func F xs ys] w (bP (.agg #[.func F xs ys,.int .i64 0,.int .i64 9223372036854775807]) w):=by
 obtain⟨W,hW⟩:∃W,w.alloc (.cells #[.nilFunc,.int .i64 0,.int .i64 0] 168)=W:=⟨_,rfl⟩;have hb:Below w.heap.size w W:=by rw[<- hW];exact aa _ _
 have hB:Bx W w.heap.size 168 [.nilFunc,.int .i64 0,.int .i64 0]:=by rw[<- hW];exact Bx.new w 168 _
 have hE:=((hB.set_ 0 (.func F xs ys)).set_ 1 (.int .i64 0)).set_ 2 (.int .i64 9223372036854775807);have hb2:=((hb.setCell (p:=⟨w.heap.size,0,none⟩) (Nat.le_refl _) (.func F xs ys)).setCell (p:=⟨w.heap.size,1,none⟩) (Nat.le_refl _) (.int .i64 0)).setCell (p:=⟨w.heap.size,2,none⟩) (Nat.le_refl _) (.int .i64 9223372036854775807);have HH:=hid (And.intro hE hb2);have c0:=hB.cell 0;have c1:=hB.cell 1;have c2:=hB.cell 2;have f0:=hB.frozen 0;have f1:=hB.frozen 1;have f2:=hB.frozen 2;simp only[List.getElem?_cons_zero,List.getElem?_cons_succ]at c0 c1 c2;clear hE hb2 hb hB;have hst:(store ⟨w.heap.size,0,none⟩ (.func F xs ys)).run Tryz.prog W=.ok () (W.setCell ⟨w.heap.size,0,none⟩ (.func F xs ys)):=by
  rw[run_store _ _ _ _ _ rfl,c0];simp[f0]
 go_enter Tryz.func208,Tryz.ntmps208
 go_wp2;obtain⟨hE,hb2⟩:=HH.out;have r0:=hE.cell 0;have r1:=hE.cell 1;have r2:=hE.cell 2;simp only[List.set_cons_zero,List.set_cons_succ,List.getElem?_cons_zero,List.getElem?_cons_succ]at r0 r1 r2;generalize ((W.setCell ⟨w.heap.size,0,none⟩ (.func F xs ys)).setCell ⟨w.heap.size,1,none⟩ (.int .i64 0)).setCell ⟨w.heap.size,2,none⟩ (.int .i64 9223372036854775807)=W3 at *
 exact bodyPost_ret (v :=.agg #[.func F xs ys,.int .i64 0,.int .i64 9223372036854775807]) (by simp[results,Tryz.f208,go_sem,r0,r1,r2]) rfl ⟨rfl,hb2⟩
theorem EA (F:Fn)(xs ys:Array Value)(w:World):Calls Tryz.prog 212 #[.func F xs ys] w (bP (.agg #[.func F xs ys,.int .i64 0,.int .i64 1]) w):=by
 obtain⟨W,hW⟩:∃W,w.alloc (.cells #[.nilFunc,.int .i64 0,.int .i64 0] 168)=W:=⟨_,rfl⟩;have hb:Below w.heap.size w W:=by rw[<- hW];exact aa _ _
 have hB:Bx W w.heap.size 168 [.nilFunc,.int .i64 0,.int .i64 0]:=by rw[<- hW];exact Bx.new w 168 _
 have hE:=((hB.set_ 0 (.func F xs ys)).set_ 1 (.int .i64 0)).set_ 2 (.int .i64 1);have hb2:=((hb.setCell (p:=⟨w.heap.size,0,none⟩) (Nat.le_refl _) (.func F xs ys)).setCell (p:=⟨w.heap.size,1,none⟩) (Nat.le_refl _) (.int .i64 0)).setCell (p:=⟨w.heap.size,2,none⟩) (Nat.le_refl _) (.int .i64 1);have HH:=hid (And.intro hE hb2);have c0:=hB.cell 0;have c1:=hB.cell 1;have c2:=hB.cell 2;have f0:=hB.frozen 0;have f1:=hB.frozen 1;have f2:=hB.frozen 2;simp only[List.getElem?_cons_zero,List.getElem?_cons_succ]at c0 c1 c2;clear hE hb2 hb hB;have hst:(store ⟨w.heap.size,0,none⟩ (.func F xs ys)).run Tryz.prog W=.ok () (W.setCell ⟨w.heap.size,0,none⟩ (.func F xs ys)):=by
  rw[run_store _ _ _ _ _ rfl,c0];simp[f0]
 go_enter Tryz.func212,Tryz.ntmps212
 go_wp2;obtain⟨hE,hb2⟩:=HH.out;have r0:=hE.cell 0;have r1:=hE.cell 1;have r2:=hE.cell 2;simp only[List.set_cons_zero,List.set_cons_succ,List.getElem?_cons_zero,List.getElem?_cons_succ]at r0 r1 r2;generalize ((W.setCell ⟨w.heap.size,0,none⟩ (.func F xs ys)).setCell ⟨w.heap.size,1,none⟩ (.int .i64 0)).setCell ⟨w.heap.size,2,none⟩ (.int .i64 1)=W3 at *
 exact bodyPost_ret (v :=.agg #[.func F xs ys,.int .i64 0,.int .i64 1]) (by simp[results,Tryz.f212,go_sem,r0,r1,r2]) rfl ⟨rfl,hb2⟩
theorem bI (A:Option Addr)(n c:Nat)(w:World):Calls Tryz.prog 207 #[.slice A n c] w (λe w'=>∃g,e=.returned (.func (.func 250) #[] #[.pointer (some ⟨g,0,none⟩)])/\Bx w' g 192 [.slice A n c]/\w.heap.size<=g/\Below w.heap.size w w'):=by
 go_enter Tryz.func207,Tryz.ntmps207
 go_wp2
 go_ret
 exact⟨w.heap.size,rfl,Bx.new w 192 _,Nat.le_refl _,aa _ _⟩
structure Pt where
 f:Int->Bool
 lo:Nat
 hi:Nat
def h_ (f:Int->Bool):List Int->Nat
 | []=>0
 |x :: l=>if f x=true then h_ f l+1 else 0
theorem nC (f:Int->Bool):∀l,h_ f l<=l.length
 | []=>Nat.le_refl _
 |x :: l=>by
  unfold h_;have:=nC f l;split
  ·rw[List.length_cons];omega
  ·omega
theorem Dh (f:Int->Bool):∀(l:List Int) (i:Nat) (h:i<l.length),i<=h_ f l->(i<h_ f l↔f l[i]=true)
 |x :: l,0,_,_=>by
  show 0<h_ f (x :: l)↔f x=true;unfold h_;split<;>simp_all
 |x :: l,i+1,h,hi=>by
  unfold h_ at hi |-;by_cases e:f x=true
  ·rw[if_pos e]at hi |-;have:=Dh f l i (by simpa using h) (by omega);rw[List.getElem_cons_succ,<- this];omega
  ·rw[if_neg e]at hi;omega
def tk (p:Pt)(l:List Int):Nat:=min p.hi (h_ p.f l)
def dC:List Pt->List Int->Bool
 | [],l=>decide (l.length=0)
 |p :: ps,l=>decide (p.lo<=tk p l)&&dC ps (l.drop (tk p l))
def bZ (f:Int->Bool):Pt:=⟨f,1,1⟩
def ik (f:Int->Bool):Pt:=⟨f,0,9223372036854775807⟩
def jv (f:Int->Bool):Pt:=⟨f,0,1⟩
def jU (m:Int)(k:Int):Bool:=k==m
theorem fA (f:Int->Bool)(ps:List Pt):dC (bZ f :: ps) []=false:=by
 show(decide (1<=min 1 0)&&_)=false;rfl
theorem aT (f:Int->Bool)(ps:List Pt)(x:Int)(l:List Int):dC (bZ f :: ps) (x :: l)=(f x&&dC ps l):=by
 by_cases e:f x=true
 ·have h:tk (bZ f) (x :: l)=1:=by
   show min 1 (h_ f (x :: l))=1;unfold h_;rw[if_pos e];omega
  show(decide (1<=tk (bZ f) (x :: l))&&dC ps ((x :: l).drop (tk (bZ f) (x :: l))))=_;rw[h,e];rfl
 ·have h:tk (bZ f) (x :: l)=0:=by
   show min 1 (h_ f (x :: l))=0;unfold h_;rw[if_neg e];omega
  show(decide (1<=tk (bZ f) (x :: l))&&dC ps ((x :: l).drop (tk (bZ f) (x :: l))))=_;rw[h,Bool.eq_false_iff.2 e];rfl
theorem oC (f:Int->Bool)(ps:List Pt)(l:List Int)(hl:l.length<=4000):dC (ik f :: ps) l=dC ps (l.drop (h_ f l)):=by
 have h:tk (ik f) l=h_ f l:=by
  show min 9223372036854775807 (h_ f l)=h_ f l;have:=nC f l;omega
 show(decide (0<=tk (ik f) l)&&dC ps (l.drop (tk (ik f) l)))=_;rw[h,decide_eq_true (Nat.zero_le _)];rfl
theorem zW (f:Int->Bool):∀l:List Int,decide ((l.drop (h_ f l)).length=0)=l.all f
 | []=>rfl
 |x :: l=>by
  have h:=zW f l;rw[List.length_drop]at h;rw[List.length_drop,List.all_cons];unfold h_;by_cases e:f x=true
  ·rw[if_pos e,e,Bool.true_and,<- h,List.length_cons,show l.length+1-(h_ f l+1)=l.length-h_ f l by omega]
  ·rw[if_neg e,Bool.eq_false_iff.2 e,List.length_cons];simp
theorem pV (f:Int->Bool)(l:List Int)(hl:l.length<=4000):dC [ik f] l=l.all f:=by
 rw[oC f [] l hl];exact zW f l
theorem EB (f:Int->Bool)(l:List Int):dC [jv f] l=(decide (l.length<=1)&&l.all f):=by
 match l with
 | []=>rfl
 | [x]=>
  by_cases e:f x=true
  ·have h:tk (jv f) [x]=1:=by
    show min 1 (h_ f [x])=1;unfold h_;rw[if_pos e];omega
   show(decide (0<=tk (jv f) [x])&&dC [] ([x].drop (tk (jv f) [x])))=_;rw[h];simp[dC,e]
  ·have h:tk (jv f) [x]=0:=by
    show min 1 (h_ f [x])=0;unfold h_;rw[if_neg e];omega
   show(decide (0<=tk (jv f) [x])&&dC [] ([x].drop (tk (jv f) [x])))=_;rw[h];simp[dC,e]
 |x :: y :: l=>
  have h:tk (jv f) (x :: y :: l)<=1:=Nat.min_le_left _ _;show(decide (0<=tk (jv f) (x :: y :: l))&&dC [] ((x :: y :: l).drop (tk (jv f) (x :: y :: l))))=_;have h2:((x :: y :: l).drop (tk (jv f) (x :: y :: l))).length≠0:=by rw[List.length_drop];simp only[List.length_cons];omega
  have h3:dC [] ((x :: y :: l).drop (tk (jv f) (x :: y :: l)))=false:=decide_eq_false h2;rw[h3];simp
theorem vv (a:Int):∀l,iD a l=h_ (jU a) l
 | []=>rfl
 |x :: l=>by
  unfold iD h_;rw[vv a l];by_cases e:x=a
  ·rw[if_pos e,if_pos (by simp[jU,e])]
  ·rw[if_neg e,if_neg (by simp[jU,e])]
theorem Ra (l:List Int)(a b:Int)(hl:l.length<=4000):dC [ik (jU a),ik (jU b)] l=iE l a b 0:=by
 rw[oC _ _ _ hl,oC _ _ _ (by rw[List.length_drop];omega)];unfold iE qJ y9;rw[if_pos rfl,vv,vv];show decide (List.length _=0)=_;rw[List.length_drop,List.length_drop];have h1:=nC (jU a) l;have h2:=nC (jU b) (l.drop (h_ (jU a) l));rw[List.length_drop]at h2;rw[decide_eq_decide];omega
theorem Re (l:List Int)(a b c:Int)(hl:l.length<=4000)(hc:c≠0):dC [ik (jU a),ik (jU b),bZ (jU c)] l=iE l a b c:=by
 rw[oC _ _ _ hl,oC _ _ _ (by rw[List.length_drop];omega)];unfold iE qJ y9;rw[if_neg hc,vv,vv];have h1:=nC (jU a) l;have h2:=nC (jU b) (l.drop (h_ (jU a) l));rw[List.length_drop]at h2;rw[List.drop_drop];generalize h_ (jU b) (l.drop (h_ (jU a) l))=r2 at *
 generalize h_ (jU a) l=r1 at *
 have hl2:l=l.take (r1+r2)++l.drop (r1+r2):=(List.take_append_drop _ _).symm;have hlen:(l.take (r1+r2)).length=r1+r2:=by rw[List.length_take];omega
 generalize hd:l.drop (r1+r2)=d at *
 generalize l.take (r1+r2)=u at *
 subst hl2;rw[List.length_append,hlen]
 match d with
 | []=>rw[fA];simp
 | [x]=>
  rw[aT];simp only[List.length_cons,List.length_nil,List.getD_eq_getElem?_getD];rw[List.getElem?_append_right (by omega),hlen];simp[dC,jU];rw[Bool.eq_iff_iff];simp
 |x :: y :: d=>
  rw[aT];have e:dC [] (y :: d)=false:=by simp[dC]
  rw[e];simp
def partsOf (kd:Int):List Pt:=
 if kd=1 then [ik (jU 2),ik (jU 3)] else if kd=3 then [ik (jU 4),ik (jU 5),bZ (jU 6)] else if kd=6 then [ik dS]
 else if kd=7\/kd=15\/kd=17\/kd=23\/kd=26 then [bZ aI]
 else if kd=8\/kd=27 then [bZ aI,bZ aI]
 else if kd=9 then [bZ (jU 18)]
 else if kd=10 then [bZ (jU 18),bZ aI]
 else if kd=11 then [bZ aI,bZ (jU 6),bZ (jU 6)]
 else if kd=12 then [bZ aI,bZ (jU 6)]
 else if kd=13 then [bZ (jU 19),ik aI]
 else if kd=14 then [jv aI]
 else if kd=16 then [bZ (jU 6),bZ (jU 6)]
 else []
theorem Rf (f:Int->Bool)(l:List Int):dC [bZ f] l=(decide (l.length=1)&&l.all f):=by
 match l with
 | []=>rw[fA];rfl
 | [x]=>rw[aT];simp[dC]
 |x :: y :: l=>rw[aT];simp[dC]
theorem Lt (f g:Int->Bool)(l:List Int):dC [bZ f,bZ g] l=(decide (l.length=2)&&f (l.getD 0 0)&&g (l.getD 1 0)):=by
 match l with
 | []=>rw[fA];rfl
 | [x]=>rw[aT,fA];simp
 | [x,y]=>rw[aT,aT];simp[dC]
 |x :: y :: z :: l=>rw[aT,aT];simp[dC]
theorem Sv (f g h:Int->Bool)(l:List Int):dC [bZ f,bZ g,bZ h] l=(decide (l.length=3)&&f (l.getD 0 0)&&g (l.getD 1 0)&&h (l.getD 2 0)):=by
 match l with
 | []=>rw[fA];rfl
 | [x]=>rw[aT,fA];simp
 | [x,y]=>rw[aT,aT,fA];simp
 | [x,y,z]=>rw[aT,aT,aT];simp[dC,Bool.and_assoc]
 |x :: y :: z :: u :: l=>rw[aT,aT,aT];simp[dC]
theorem yH (m k:Int):jU m k=decide (k=m):=by unfold jU;rw[Bool.eq_iff_iff];simp
theorem Tg (l:List Int):dC [bZ aI,bZ aI] l=(decide (l.length=2)&&fu l):=by
 rw[Lt]
 match l with
 | []=>rfl
 | [x]=>simp
 | [x,y]=>simp[fu]
 |x :: y :: z :: l=>simp
theorem Ti (l:List Int):dC [bZ (jU 18)] l=(decide (l.length=1)&&decide (l.getD 0 0=18)):=by
 rw[Rf]
 match l with
 | []=>rfl
 | [x]=>simp[yH]
 |x :: y :: l=>simp
theorem Sw (l:List Int)(hl:l.length<=4000):dC [bZ (jU 19),ik aI] l=(decide (1<=l.length)&&decide (l.getD 0 0=19)&&fu (l.drop 1)):=by
 match l with
 | []=>rw[fA];rfl
 |x :: l=>
  rw[aT,pV _ _ (by simp at hl;omega),yH];simp[fu]
theorem Lu (kd:Int)(l:List Int)(hl:l.length<=4000):dC (partsOf kd) l=bB kd l:=by
 unfold partsOf bB
 repeat rw[apply_ite (λp=>dC p l)]
 rw[Ra l 2 3 hl,Re l 4 5 6 hl (by decide),pV _ _ hl,Rf,Tg,Ti,Lt,Sv,Lt,Sw l hl,EB,Lt];simp only[yH];rfl
theorem Rh (k m:Int)(g:Nat)(w:World)(h:w.cell? ⟨g,0,none⟩=some (.int .i64 m)):Calls Tryz.prog 249 #[.int .i64 k,.pointer (some ⟨g,0,none⟩)] w λe w'=>e=.returned (.bool (jU m k))/\w=w':=by
 by_cases e:k=m
 ·have HE:=hid (show jU m k=true by simp[jU,e]);subst e;go_enter Tryz.func249,Tryz.ntmps249
  go_wp2
  go_ret
  exact⟨ax HE.out.symm,rfl⟩
 ·have HE:=hid (show jU m k=false by simp[jU,e]);have q:(k==m)=false:=by simp[e]
  clear e;go_enter Tryz.func249,Tryz.ntmps249
  go_wp2
  go_ret
  exact⟨ax HE.out.symm,rfl⟩
theorem O6 (k:Int)(w:World):Calls Tryz.prog 210 #[.int .i64 k] w λe w'=>e=.returned (.bool (dS k))/\w=w':=by
 by_cases h1:7<=k
 ·by_cases h2:k<=17
  ·have HE:=hid (show dS k=true by unfold dS;simp[h1,h2]);have q1:decide (7<=k)=true:=decide_eq_true h1;have q2:decide (k<=17)=true:=decide_eq_true h2;go_enter Tryz.func210,Tryz.ntmps210
   go_wp2
   go_ret
   exact⟨ax HE.out.symm,rfl⟩
  ·have HE:=hid (show dS k=false by unfold dS;simp[h1,h2]);have q1:decide (7<=k)=true:=decide_eq_true h1;have q2:decide (k<=17)=false:=decide_eq_false h2;go_enter Tryz.func210,Tryz.ntmps210
   go_wp2
   go_ret
   exact⟨ax HE.out.symm,rfl⟩
 ·have HE:=hid (show dS k=false by unfold dS;simp[h1]);have q1:decide (7<=k)=false:=decide_eq_false h1;go_enter Tryz.func210,Tryz.ntmps210
  go_wp2
  go_ret
  exact⟨ax HE.out.symm,rfl⟩
theorem O7 (k:Int)(w:World):Calls Tryz.prog 204 #[.int .i64 k] w λe w'=>e=.returned (.bool (aI k))/\w=w':=by
 by_cases h1:20<=k
 ·by_cases h2:k<=27
  ·have HE:=hid (show aI k=true by unfold aI;simp[h1,h2]);have q1:decide (20<=k)=true:=decide_eq_true h1;have q2:decide (k<=27)=true:=decide_eq_true h2;go_enter Tryz.func204,Tryz.ntmps204
   go_wp2
   go_ret
   exact⟨ax HE.out.symm,rfl⟩
  ·have HE:=hid (show aI k=false by unfold aI;simp[h1,h2]);have q1:decide (20<=k)=true:=decide_eq_true h1;have q2:decide (k<=27)=false:=decide_eq_false h2;go_enter Tryz.func204,Tryz.ntmps204
   go_wp2
   go_ret
   exact⟨ax HE.out.symm,rfl⟩
 ·have HE:=hid (show aI k=false by unfold aI;simp[h1]);have q1:decide (20<=k)=false:=decide_eq_false h1;go_enter Tryz.func204,Tryz.ntmps204
  go_wp2
  go_ret
  exact⟨ax HE.out.symm,rfl⟩
def yI (w:World)(F:Nat)(ys:Array Value)(f:Int->Bool):Prop:=
 (∃g m,F=249/\ys = #[.pointer (some ⟨g,0,none⟩)]/\w.cell? ⟨g,0,none⟩=some (.int .i64 m)/\g<w.heap.size/\f=jU m)\/(F=204/\ys = #[]/\f=aI)\/(F=210/\ys = #[]/\f=dS)
theorem yI.below {w w':World}{F:Nat}{ys:Array Value}{f:Int->Bool}(h:yI w F ys f)(hb:Below w.heap.size w w'):yI w' F ys f:=by
 rcases h with⟨g,m,h1,h2,h3,h4,h5⟩ |h |h
 ·exact .inl ⟨g,m,h1,h2,(hb.cell (p:=⟨g,0,none⟩) h4).trans h3,Nat.lt_of_lt_of_le h4 hb.size,h5⟩
 ·exact .inr (.inl h)
 ·exact .inr (.inr h)
theorem Ri:Own 249:=⟨_,Tryz.func249,by kernel_rfl,by kernel_rfl⟩
theorem Rj:Own 204:=⟨_,Tryz.func204,by kernel_rfl,by kernel_rfl⟩
theorem pO:Own 210:=⟨_,Tryz.func210,by kernel_rfl,by kernel_rfl⟩
theorem yI.own {w:World}{F:Nat}{ys:Array Value}{f:Int->Bool}(h:yI w F ys f):Own F:=by
 rcases h with⟨g,m,rfl,_⟩ |⟨rfl,_⟩ |⟨rfl,_⟩
 ·exact Ri
 ·exact Rj
 ·exact pO
theorem yI.calls {w:World}{F:Nat}{ys:Array Value}{f:Int->Bool}(h:yI w F ys f)(k:Int):Calls Tryz.prog F (#[.int .i64 k]++ys) w λe w'=>e=.returned (.bool (f k))/\w=w':=by
 rcases h with⟨g,m,rfl,rfl,h3,_,rfl⟩ |⟨rfl,rfl,rfl⟩ |⟨rfl,rfl,rfl⟩
 ·exact Rh k m g w h3
 ·exact O7 k w
 ·exact O6 k w
def Parts (w:World)(A:Option Addr)(ps:List Pt):Prop:=
 0<ps.length->∃b off,A=some ⟨b,off,none⟩/\b<w.heap.size/\∀j (hj:j<ps.length),∃F ys,w.cell? ⟨b,off+j*3,none⟩=some (.func (.func F) #[] ys)/\w.cell? ⟨b,off+j*3+1,none⟩=some (.int .i64 (ps[j].lo:Int)) /\
  w.cell? ⟨b,off+j*3+2,none⟩=some (.int .i64 (ps[j].hi:Int))/\yI w F ys ps[j].f/\ps[j].hi<=9223372036854775807
theorem Parts.below {w w':World}{A:Option Addr}{ps:List Pt}(h:Parts w A ps)(hb:Below w.heap.size w w'):Parts w' A ps:=λh0=>by
 obtain⟨b,off,e,hl,hc⟩:=h h0;refine⟨b,off,e,Nat.lt_of_lt_of_le hl hb.size,λj hj =>?_⟩;obtain⟨F,ys,c0,c1,c2,hF,hi⟩:=hc j hj;exact⟨F,ys,(hb.cell (p:=⟨b,off+j*3,none⟩) hl).trans c0,(hb.cell (p:=⟨b,off+j*3+1,none⟩) hl).trans c1,(hb.cell (p:=⟨b,off+j*3+2,none⟩) hl).trans c2,hF.below hb,hi⟩
theorem vw (b off n c k:Nat)(h1:k<=n)(h2:n<=c)(w:World):(Instr.slice 35 (.slice (some ⟨b,off,none⟩) n c) (some (.int .i64 (k:Int))) none none).run Tryz.prog w=.ok (.slice (some ⟨b,if c=k then off else off+k,none⟩) (n-k) (c-k)) w:=by
 by_cases h3:c=k
 ·obtain rfl:n=k:=by omega
  subst h3;simp[go_sem,Tryz.underlying35]
 ·simp[go_sem,Tryz.underlying35];rw[if_pos (by omega),if_neg (by omega),if_neg h3]
theorem Ints.drop {w:World}{b off:Nat}{l:List Int}(h:Ints w (some ⟨b,off,none⟩) l)(k c:Nat)(hc:l.length<=c):Ints w (some ⟨b,if c=k then off else off+k,none⟩) (l.drop k):=λh0=>by
 rw[List.length_drop]at h0;obtain⟨b',off',e,hl,hcc⟩:=h (by omega);cases e;rw[if_neg (by omega)];refine⟨b,off+k,rfl,hl,λj hj =>?_⟩;rw[List.length_drop]at hj;have:=hcc (k+j) (by omega);rw[List.getElem_drop,Nat.add_assoc];exact this
section
variable {ops:Array Oper} {C:World->Prop} {Q:Act->Prop} {rest:List Oper} {d:Option Tmp} {ty:TypeId} {p:String} {af:Array Edge} {gd:Option (Nat × Bool)} {a:Act}
theorem yJ {c x y:Operand}{v:Value}(hw:Region.wanted ⟨d,.pick c x y,ty,p,af,gd⟩ (yielded ops a.tmps)=true)(hc:a.eval c=.bool false)(hx:a.eval y=v)
  (h:wpQuiet Tryz.prog ops C Q rest (a.put d v)):wpQuiet Tryz.prog ops C Q (⟨d,.pick c x y,ty,p,af,gd⟩ :: rest) a:=
 q_op hw (λw _=>by unfold Oper.quietAt execOp;simp[hc,hx,asBool,Oper.quietUpon]) h
theorem vz {x y:Operand}{u v:Int}{b:Bool}(hw:Region.wanted ⟨d,.binOp .lss 3 x y 3,ty,p,af,gd⟩ (yielded ops a.tmps)=true)(hx:a.eval x=.int .i64 u)(hy:a.eval y=.int .i64 v)(hb:decide (u<v)=b)
  (h:wpQuiet Tryz.prog ops C Q rest (a.put d (.bool b))):wpQuiet Tryz.prog ops C Q (⟨d,.binOp .lss 3 x y 3,ty,p,af,gd⟩ :: rest) a:=
 QF hw hx hy (λw=>by simp[go_sem]) (λw=>by simp[go_sem,hb]) h
theorem Lv {F:Nat}{z:Operand}{xs:Array Operand}{ts:Array TypeId}{args ys:Array Value}{v:Value}(hF:Own F)(hw:Region.wanted ⟨d,.call {callee :=.value z,args:=xs,argTypes:=ts},ty,p,af,gd⟩ (yielded ops a.tmps)=true)
  (hz:a.eval z=.func (.func F) #[] ys) (ha':(xs.toList.map a.eval).toArray=args) (hc:∀w,C w->Calls Tryz.prog F (args++ys) w λe w'=>e=.returned v/\C w')
  (h:wpQuiet Tryz.prog ops C Q rest (a.put d v)):wpQuiet Tryz.prog ops C Q (⟨d,.call {callee :=.value z,args:=xs,argTypes:=ts},ty,p,af,gd⟩ :: rest) a:=
 q_op hw (λw hC=>by
  unfold Oper.quietAt execOp
  have ha:xs.map a.eval=args:=by rw[<- ha'];exact Array.ext' (by rw[Array.toList_map])
  simp only[resolve,hz,ha,Deferred.ofValue,invoke,Sem.run_bind,Sem.run_pure,Result.andThen_ok]
  have e2:(#[]++args:Array Value)++ys=args++ys:=by simp
  rw[e2,oV hF]
  exact⟨rfl,hc w hC⟩) h
end
theorem sS {id:Nat}{Q:Exit->Act->World->Prop}{a:Act}(w0:World){w:World}{l:List Oper}(hB:Region.lexB .any l.toArray=true)(hw:Cl w0 w)
  (h:wpQuiet Tryz.prog l.toArray (Cl w0) (λa'=>∀w',Cl w0 w'->Q .normal a' w') l a):(Code.region id l.toArray true).wp Tryz.prog Q a w:=
 wp_region_quiet (C:=Cl w0) (by kernel_rfl) hB ⟨hw.os,hw.tape,hw.output,hw.size,hw.block⟩ (by simpa using h)
theorem ww (b:Nat)(w:World):(Instr.fieldAt 168 (.pointer (some ⟨b,0,none⟩)) 0).run Tryz.prog w=.ok (.pointer (some ⟨b,0,none⟩)) w:=by kernel_rfl
theorem pW (b:Nat)(w:World):(Instr.fieldAt 168 (.pointer (some ⟨b,0,none⟩)) 2).run Tryz.prog w=.ok (.pointer (some ⟨b,2,none⟩)) w:=by kernel_rfl
theorem BH {w:World}{b off:Nat}{F:Nat}{ys:Array Value}(h:w.cell? ⟨b,off,none⟩=some (.func (.func F) #[] ys)):(Instr.loadAt 76 (.pointer (some ⟨b,off,none⟩))).run Tryz.prog w=.ok (.func (.func F) #[] ys) w:=by
 simp[go_sem,h]
theorem Hl (bK oK0 n0 c0:Nat)(ks:List Int)(g:Nat)(A:Option Addr)(m cc:Nat)(ps:List Pt)(w:World)(hI:Ints w (some ⟨bK,oK0,none⟩) ks)(hn:n0=ks.length)(hl:n0<=4000)(hcap:n0<=c0)(hg:w.cell? ⟨g,0,none⟩=some (.slice A m cc))(hP:Parts w A ps)(hm:m=ps.length)(hml:m<=10):Calls Tryz.prog 250 #[.slice (some ⟨bK,oK0,none⟩) n0 c0,.pointer (some ⟨g,0,none⟩)] w (dK (dC ps ks) w):=by
 have HI:=hid hI;have HP:=hid hP;have HM:=hid hm;have HN:=hid hn;clear hI hP hm hn;go_enter Tryz.func250,Tryz.ntmps250
 go_wp2
 go_loopw [0,9] (λkv i wr=>∃(q oK n c:Nat) (ks':List Int),q<=m/\i=.int .i64 (q:Int)/\kv=.slice (some ⟨bK,oK,none⟩) n c/\n=ks'.length/\n<=c/\n<=4000/\Ints w (some ⟨bK,oK,none⟩) ks'/\dC (ps.drop q) ks'=dC ps ks/\Below w.heap.size w wr) (λ_ i _=>m-(intOf i).toNat)
 case atStart=>exact⟨0,oK0,n0,c0,ks,Nat.zero_le _,rfl,rfl,HN.out,hcap,hl,HI.out,rfl,Below.refl _ _⟩
 case round=>
  clear HI HN hcap hl;obtain⟨q,oK,n,c,ks',hq,rfl,rfl,hn,hcap,hl,hI,hrow,hbw⟩:=hrel;have HN:=hid hn;have HI:=hid hI;have HROW:=hid hrow;clear hn hI hrow;by_cases hqm:q<m
  ·have hqz:(q:Int)<(m:Int):=by omega
   have hql:q<ps.length:=by rw[<- HM.out];exact hqm
   obtain⟨b,off,rfl,hb,hc⟩:=HP.out (by omega);obtain⟨F,ys,d0,d1,d2,hF,hhi⟩:=hc q hql;have HD:=hid (show ps.drop q=ps[q] :: ps.drop (q+1)from List.drop_eq_getElem_cons hql);clear hc;generalize ps[q]=P at *
   obtain⟨f,lo,hi⟩:=P;dsimp only at d1 d2 hF hhi;have d0:=(hbw.cell (p:=⟨b,off+q*3,none⟩) hb).trans d0;have d1:=(hbw.cell (p:=⟨b,off+q*3+1,none⟩) hb).trans d1;have d2:=(hbw.cell (p:=⟨b,off+q*3+2,none⟩) hb).trans d2;obtain⟨W,hW⟩:∃W,wr.alloc (.cells #[.nilFunc,.int .i64 0,.int .i64 0] 168)=W:=⟨_,rfl⟩;have hbW:Below w.heap.size w W:=by rw[<- hW];exact hbw.alloc hbw.size _
   have hB:Bx W wr.heap.size 168 [.nilFunc,.int .i64 0,.int .i64 0]:=by rw[<- hW];exact Bx.new wr 168 _
   have hE:=((hB.set_ 0 (.func (.func F) #[] ys)).set_ 1 (.int .i64 (lo:Int))).set_ 2 (.int .i64 (hi:Int));have hb2:=((hbW.setCell (p:=⟨wr.heap.size,0,none⟩) hbw.size (.func (.func F) #[] ys)).setCell (p:=⟨wr.heap.size,1,none⟩) hbw.size (.int .i64 (lo:Int))).setCell (p:=⟨wr.heap.size,2,none⟩) hbw.size (.int .i64 (hi:Int));have HH:=hid (And.intro hE hb2);have e0:=hB.cell 0;have e1:=hB.cell 1;have e2:=hB.cell 2;have f0:=hB.frozen 0;have f1:=hB.frozen 1;have f2:=hB.frozen 2;simp only[List.getElem?_cons_zero,List.getElem?_cons_succ]at e0 e1 e2;have HF:=hid hF;clear hE hb2 hbW hB hF;have hst:(store ⟨wr.heap.size,0,none⟩ (.func (.func F) #[] ys)).run Tryz.prog W=.ok () (W.setCell ⟨wr.heap.size,0,none⟩ (.func (.func F) #[] ys)):=by
    rw[run_store _ _ _ _ _ rfl,e0];simp[f0]
   go_wp2;clear hst d0 d1 d2;obtain⟨hB3,hb3⟩:=HH.out;simp only[List.set_cons_zero,List.set_cons_succ]at hB3;clear HH e0 e1 e2 f0 f1 f2 hW;obtain⟨g5,hg5⟩:∃g5,g5=wr.heap.size:=⟨_,rfl⟩;rw[<- hg5]at hB3 hb3 |-;clear hg5 hbw;generalize ((W.setCell ⟨g5,0,none⟩ (.func (.func F) #[] ys)).setCell ⟨g5,1,none⟩ (.int .i64 (lo:Int))).setCell ⟨g5,2,none⟩ (.int .i64 (hi:Int))=W3 at *
   have HF:=hid (HF.out.below hb3);have hOwn:=HF.out.own;have hBK:∀t (h:t<ks'.length),W3.cell? ⟨bK,oK+t,none⟩=some (.int .i64 ks'[t])/\bK<W3.heap.size:=λt h=>by
    obtain⟨b',o',e,hl',hc'⟩:=(HI.out.below hb3) (by omega);cases e;exact⟨hc' t h,hl'⟩
   have HBK:=hid hBK;clear hBK;obtain⟨T,hT⟩:∃T,T=tk ⟨f,lo,hi⟩ ks':=⟨_,rfl⟩;have hTn:T<=n:=by have:=nC f ks';have:=HN.out;unfold tk at hT;simp only at hT;omega
   have HT:=hid hT;have HD2:=hid (show dC ps ks=(decide (lo<=T)&&dC (ps.drop (q+1)) (ks'.drop T))by rw[<- HROW.out,HD.out,hT];rfl);have HRA:=hid (λ(t:Nat) (h1:t<=T) (h:t<ks'.length)=>Dh f ks' t h (by unfold tk at hT;simp only at hT;omega));have HTM:=hid (show T=min hi (h_ f ks')from hT);clear hT
   go_loopw [6] (λtv wz=>∃t:Nat,t<=T/\tv=.int .i64 (t:Int)/\Below W3.heap.size W3 wz) (λtv _=>n-(intOf tv).toNat)
   case atStart=>exact⟨0,Nat.zero_le _,rfl,Below.refl _ _⟩
   case round=>
    obtain⟨t,ht,rfl,hbz⟩:=hrel;obtain⟨W4,rfl⟩:∃W4,W4=wr:=⟨_,rfl⟩;by_cases htn:t<n
    ·have qA:decide ((t:Int)<(n:Int))=true:=decide_eq_true (by omega);have htk:t<ks'.length:=by rw[<- HN.out];exact htn
     by_cases hth:t<hi
     ·have qB:decide ((t:Int)<(hi:Int))=true:=decide_eq_true (by omega);obtain⟨hck,hbK3⟩:=HBK.out t htk;have HR:=hid (HRA.out t ht htk);generalize ks'[t]=kk at *
      go_wp2;refine au (λw'=>Below W3.heap.size W3 w') hbz λW5 hbz5 =>?_
      refine sS W3 (by kernel_rfl) hbz5 ?_;refine il rfl rfl ?_;simp only[ap];refine il rfl rfl ?_;simp only[ap];refine q_len (.inl rfl) rfl rfl ?_;simp only[ap];refine vz (b:=true) rfl rfl rfl qA ?_;simp only[ap];refine il rfl rfl ?_;simp only[ap];refine il rfl rfl ?_;simp only[ap];refine xM rfl rfl (pW _) ?_;simp only[ap];refine xL rfl rfl (λw' h=>aB (((hB3.below h hB3.lt).cell 2).trans rfl)) ?_;simp only[ap];refine vz (b:=true) rfl rfl rfl qB ?_;simp only[ap];refine AZ rfl rfl rfl ?_;simp only[ap];refine il rfl rfl ?_;simp only[ap];refine xM rfl rfl (ww _) ?_;simp only[ap];refine xL rfl rfl (λw' h=>BH (((hB3.below h hB3.lt).cell 0).trans rfl)) ?_;simp only[ap];refine il rfl rfl ?_;simp only[ap];refine il rfl rfl ?_;simp only[ap];refine JW rfl rfl rfl (zh _ _ _ _ _ htn) ?_;simp only[ap];refine xL rfl rfl (λw' h=>aB ((Below.cell h (p:=⟨bK,oK+t,none⟩) hbK3).trans hck)) ?_;simp only[ap];refine Lv (args := #[.int .i64 kk]) (v :=.bool (f kk)) hOwn rfl rfl rfl (λw' h=>((HF.out.below h).calls kk).mono (λe w'' hh=>⟨hh.1,hh.2▸h⟩)) ?_;simp only[ap];refine AZ rfl rfl rfl ?_;simp only[ap];refine wpQuiet_nil ?_;intro W6 hC6;cases hfk:f kk with
      |true=>
       have HTT:=hid (show t+1<=T by have h1:=HR.out.2 hfk;have h2:=HTM.out;omega);go_wp2
       go_roundw
       case rel=>exact⟨t+1,HTT.out,by go_num,hC6⟩
       case measure=>simp[intOf];omega
      |false=>
       have HTT:=hid (show T=t by
        have h1:¬t<h_ f ks':=λh=>by have:=HR.out.1 h;rw[hfk]at this;cases this
        have h2:=HTM.out;omega)
       clear hfk;rw[HTT.out]at HD2;obtain⟨hbW6⟩:Nonempty (Below w.heap.size w W6):=⟨Below.trans hb3 (Below.mono hC6 hb3.size)⟩;have r1:=((hB3.below hC6 hB3.lt).cell 1);simp only[List.getElem?_cons_zero,List.getElem?_cons_succ]at r1;by_cases hlo:lo<=t
       ·have q1:decide (t<lo)=false:=decide_eq_false (by omega);have HDD:=hid (show dC (ps.drop (q+1)) (ks'.drop t)=dC ps ks by rw[HD2.out,decide_eq_true hlo];rfl);have hsl:=vw bK oK n c t (by omega) hcap;have HIN:=hid (HI.out.drop t c (by have:=HN.out;omega));generalize (if c=t then oK else oK+t)=oN at *
        clear hlo;go_wp2
        go_roundw
        case rel=>exact⟨q+1,oN,n-t,c-t,ks'.drop t,by omega,by go_num,rfl,by rw[List.length_drop,HN.out],by omega,by omega,HIN.out,HDD.out,hbW6⟩
        case measure=>simp[intOf];omega
       ·have q1:decide (t<lo)=true:=decide_eq_true (by omega);have HDD:=hid (show dC ps ks=false by rw[HD2.out,decide_eq_false hlo];rfl);clear hlo;go_wp2
        go_ret
        exact⟨ax HDD.out.symm,hbW6⟩
     ·have qB:decide ((t:Int)<(hi:Int))=false:=decide_eq_false (by omega);have HTT:=hid (show T=t by have h2:=HTM.out;omega);go_wp2;refine au (λw'=>Below W3.heap.size W3 w') hbz λW5 hbz5 =>?_
      refine sS W3 (by kernel_rfl) hbz5 ?_;refine il rfl rfl ?_;simp only[ap];refine il rfl rfl ?_;simp only[ap];refine q_len (.inl rfl) rfl rfl ?_;simp only[ap];refine vz (b:=true) rfl rfl rfl qA ?_;simp only[ap];refine il rfl rfl ?_;simp only[ap];refine il rfl rfl ?_;simp only[ap];refine xM rfl rfl (pW _) ?_;simp only[ap];refine xL rfl rfl (λw' h=>aB (((hB3.below h hB3.lt).cell 2).trans rfl)) ?_;simp only[ap];refine vz (b:=false) rfl rfl rfl qB ?_;simp only[ap];refine AZ (v :=.bool false) rfl rfl rfl ?_;simp only[ap];refine il (v :=.bool false) rfl rfl ?_;simp only[ap]
      go_big_quiet_skip
      go_big_quiet_skip
      go_big_quiet_skip
      go_big_quiet_skip
      go_big_quiet_skip
      go_big_quiet_skip
      go_big_quiet_skip
      refine yJ rfl rfl rfl ?_;simp only[ap];refine wpQuiet_nil ?_;intro W6 hC6;rw[HTT.out]at HD2;obtain⟨hbW6⟩:Nonempty (Below w.heap.size w W6):=⟨Below.trans hb3 (Below.mono hC6 hb3.size)⟩;have r1:=((hB3.below hC6 hB3.lt).cell 1);simp only[List.getElem?_cons_zero,List.getElem?_cons_succ]at r1;by_cases hlo:lo<=t
      ·have q1:decide (t<lo)=false:=decide_eq_false (by omega);have HDD:=hid (show dC (ps.drop (q+1)) (ks'.drop t)=dC ps ks by rw[HD2.out,decide_eq_true hlo];rfl);have hsl:=vw bK oK n c t (by omega) hcap;have HIN:=hid (HI.out.drop t c (by have:=HN.out;omega));generalize (if c=t then oK else oK+t)=oN at *
       clear hlo;go_wp2
       go_roundw
       case rel=>exact⟨q+1,oN,n-t,c-t,ks'.drop t,by omega,by go_num,rfl,by rw[List.length_drop,HN.out],by omega,by omega,HIN.out,HDD.out,hbW6⟩
       case measure=>simp[intOf];omega
      ·have q1:decide (t<lo)=true:=decide_eq_true (by omega);have HDD:=hid (show dC ps ks=false by rw[HD2.out,decide_eq_false hlo];rfl);clear hlo;go_wp2
       go_ret
       exact⟨ax HDD.out.symm,hbW6⟩
    ·have qA:decide ((t:Int)<(n:Int))=false:=decide_eq_false (by omega);have HTT:=hid (show T=t by omega);go_wp2;refine au (λw'=>Below W3.heap.size W3 w') hbz λW5 hbz5 =>?_
     refine sS W3 (by kernel_rfl) hbz5 ?_;refine il rfl rfl ?_;simp only[ap];refine il rfl rfl ?_;simp only[ap];refine q_len (.inl rfl) rfl rfl ?_;simp only[ap];refine vz (b:=false) rfl rfl rfl qA ?_;simp only[ap];refine il (v :=.bool false) rfl rfl ?_;simp only[ap]
     go_big_quiet_skip
     go_big_quiet_skip
     go_big_quiet_skip
     go_big_quiet_skip
     refine yJ (v :=.bool false) rfl rfl rfl ?_;simp only[ap];refine il (v :=.bool false) rfl rfl ?_;simp only[ap]
     go_big_quiet_skip
     go_big_quiet_skip
     go_big_quiet_skip
     go_big_quiet_skip
     go_big_quiet_skip
     go_big_quiet_skip
     go_big_quiet_skip
     refine yJ rfl rfl rfl ?_;simp only[ap];refine wpQuiet_nil ?_;intro W6 hC6;rw[HTT.out]at HD2;obtain⟨hbW6⟩:Nonempty (Below w.heap.size w W6):=⟨Below.trans hb3 (Below.mono hC6 hb3.size)⟩;have r1:=((hB3.below hC6 hB3.lt).cell 1);simp only[List.getElem?_cons_zero,List.getElem?_cons_succ]at r1;by_cases hlo:lo<=t
     ·have q1:decide (t<lo)=false:=decide_eq_false (by omega);have HDD:=hid (show dC (ps.drop (q+1)) (ks'.drop t)=dC ps ks by rw[HD2.out,decide_eq_true hlo];rfl);have hsl:=vw bK oK n c t (by omega) hcap;have HIN:=hid (HI.out.drop t c (by have:=HN.out;omega));generalize (if c=t then oK else oK+t)=oN at *
      clear hlo;go_wp2
      go_roundw
      case rel=>exact⟨q+1,oN,n-t,c-t,ks'.drop t,by omega,by go_num,rfl,by rw[List.length_drop,HN.out],by omega,by omega,HIN.out,HDD.out,hbW6⟩
      case measure=>simp[intOf];omega
     ·have q1:decide (t<lo)=true:=decide_eq_true (by omega);have HDD:=hid (show dC ps ks=false by rw[HD2.out,decide_eq_false hlo];rfl);clear hlo;go_wp2
      go_ret
      exact⟨ax HDD.out.symm,hbW6⟩
  ·obtain rfl:q=m:=by omega
   have hqz:¬(q:Int)<(q:Int):=by omega
   rw[HM.out,List.drop_length]at HROW;by_cases hz:n=0
   ·subst hz;have HE:=hid (show dC ps ks=true by rw[<- HROW.out];exact decide_eq_true HN.out.symm);go_wp2
    go_ret
    exact⟨ax HE.out.symm,hbw⟩
   ·have HE:=hid (show dC ps ks=false by rw[<- HROW.out];exact decide_eq_false (λh=>hz (HN.out.trans h)));have hz2:((n:Int)==0)=false:=by simp;exact hz
    go_wp2
    go_ret
    exact⟨ax HE.out.symm,hbw⟩
def dR (w:World)(g:Nat)(ps:List Pt):Prop:=∃A m c,w.cell? ⟨g,0,none⟩=some (.slice A m c)/\Parts w A ps/\m=ps.length/\g<w.heap.size
theorem dR.below {w w':World}{g:Nat}{ps:List Pt}(h:dR w g ps)(hb:Below w.heap.size w w'):dR w' g ps:=by
 obtain⟨A,m,c,h1,h2,h3,h4⟩:=h;exact⟨A,m,c,(hb.cell (p:=⟨g,0,none⟩) h4).trans h1,h2.below hb,h3,Nat.lt_of_lt_of_le h4 hb.size⟩
def O8 (kd:Int):Nat:=
 if kd=2\/kd=3\/kd=4\/kd=5\/kd=7\/kd=8\/kd=9\/kd=16\/kd=17\/kd=18\/kd=19\/kd=22\/kd=23\/kd=24\/kd=25 then 209
 else if kd=13 then 211 else if kd=26 then 213 else if kd=27 then 214 else 206
def fB (kd:Int):Int:=if kd=2\/kd=4\/kd=5 then 1 else 0
def fC (kd:Int):Int:=if kd=2\/kd=3\/kd=4\/kd=5 then 4 else if kd=20 then 9223372036854775807 else if kd=21 then 1 else 0
theorem Rk:Own 209:=⟨_,Tryz.func209,by kernel_rfl,by kernel_rfl⟩
theorem Rl:Own 211:=⟨_,Tryz.func211,by kernel_rfl,by kernel_rfl⟩
theorem Rm:Own 213:=⟨_,Tryz.func213,by kernel_rfl,by kernel_rfl⟩
theorem Rn:Own 214:=⟨_,Tryz.func214,by kernel_rfl,by kernel_rfl⟩
theorem Ro:Own 206:=⟨_,Tryz.func206,by kernel_rfl,by kernel_rfl⟩
theorem LA (kd:Int):Own (O8 kd):=by
 unfold O8;split
 ·exact Rk
 split
 ·exact Rl
 split
 ·exact Rm
 split
 ·exact Rn
 ·exact Ro
theorem EC (kd:Int)(s:ByteArray)(w:World)(hmax:s.size<=281474976710656):Calls Tryz.prog (O8 kd) #[.string s] w (dK (iW kd s.data.toList) w):=by
 unfold O8 iW;split
 ·exact(iV s w hmax).mono λe w' h=>⟨h.1,by rw[<- h.2];exact Below.refl _ _⟩
 split
 ·exact qV s w hmax
 split
 ·exact zk s w
 split
 ·exact xN s w
 ·exact zi s w
theorem Hm (kd n:Int)(hn:n<=9223372036854775807):(decide (fB kd<=n)&&decide (n<=fC kd))=eQ kd n:=by
 unfold fB fC eQ;rw[Bool.eq_iff_iff];split<;>split<;>(try split)<;>(try split)<;>(try split)<;>simp<;>omega
def bN (kd:Int)(w:World)(e:Ending)(w':World):Prop:=
 ∃g,e=.returned (.tuple #[.agg #[.func (.func (O8 kd)) #[] #[],.int .i64 (fB kd),.int .i64 (fC kd),.func (.func 250) #[] #[.pointer (some ⟨g,0,none⟩)]],.bool true])/\dR w' g (partsOf kd)/\Below w.heap.size w w'
theorem lC (W:World)(b off:Nat)(F:Fn)(xs ys:Array Value)(h:(W.cell? ⟨b,off,none⟩).isSome=true)(hf:W.frozen? ⟨b,off,none⟩=false):(store ⟨b,off,none⟩ (.func F xs ys)).run Tryz.prog W=.ok () (W.setCell ⟨b,off,none⟩ (.func F xs ys)):=by
 obtain⟨u,hu⟩:=Option.isSome_iff_exists.1 h;rw[run_store _ _ _ _ _ rfl,hu];simp[hf]
theorem dz {w:World}{b:Nat}{ps:List Pt}(hb:b<w.heap.size)(h:∀j (hj:j<ps.length),∃F ys,w.cell? ⟨b,j*3,none⟩=some (.func (.func F) #[] ys)/\w.cell? ⟨b,j*3+1,none⟩=some (.int .i64 (ps[j].lo:Int)) /\
  w.cell? ⟨b,j*3+2,none⟩=some (.int .i64 (ps[j].hi:Int))/\yI w F ys ps[j].f/\ps[j].hi<=9223372036854775807):Parts w (some ⟨b,0,none⟩) ps:=λ_=>⟨b,0,rfl,hb,λj hj=>by
 obtain⟨F,ys,h1,h2,h3,h4⟩:=h j hj
 rw[Nat.zero_add]
 exact⟨F,ys,h1,h2,h3,h4⟩⟩
theorem bG {W:World}{g b:Nat}{t:TypeId}{l l':List Value}(hR:Bx W g 129 l)(h:Bx W b t l')(ht:t≠129)(u0 u1 u2 u3:Value):Bx ((((W.setCell ⟨g,0,none⟩ u0).setCell ⟨g,1,none⟩ u1).setCell ⟨g,2,none⟩ u2).setCell ⟨g,3,none⟩ u3) b t l':=by
 have hn:b≠g:=λe=>by
  subst e;have h2:=h.symm.trans hR;simp only[Option.some.injEq,Obj.cells.injEq]at h2;exact ht h2.2.1
 exact(((h.far (p:=⟨g,0,none⟩) hn u0).far (p:=⟨g,1,none⟩) hn u1).far (p:=⟨g,2,none⟩) hn u2).far (p:=⟨g,3,none⟩) hn u3
def dF (w:World)(g4 g5:Nat)(W:World):Prop:=∃gb,Bx W w.heap.size 129 [.nilFunc,.int .i64 0,.int .i64 0,.nilFunc]/\Bx W g4 168 [.func (.func 204) #[] #[],.int .i64 1,.int .i64 1] /\
 Bx W g5 168 [.func (.func 249) #[] #[.pointer (some ⟨gb,0,none⟩)],.int .i64 1,.int .i64 1]/\Bx W gb 3 [.int .i64 6]/\Below w.heap.size w W
end
end Go.Proofs.YteecfjhjllajlaaGreatDoor.Tr
