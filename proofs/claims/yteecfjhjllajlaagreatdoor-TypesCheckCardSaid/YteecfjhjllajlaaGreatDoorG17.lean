/- PROVED: TrTw. No more condition. -/
import Derived.Test.YteecfjhjllajlaaGreatDoorG03
namespace Go.Proofs.YteecfjhjllajlaaGreatDoor.Tr
open Go.Lib (hid)
section
set_option maxHeartbeats 1500000
set_option maxRecDepth 100000
open Go Go.RowKit
def aG (v:Value)(w:World)(e:Ending)(w':World):Prop:=e=.returned v/\Below w.heap.size w w'
theorem h_ (k:Int)(w:World):Calls Tryz.prog 205 #[.int .i64 k] w (λe w'=>∃g,e=.returned (.func (.func 249) #[] #[.pointer (some ⟨g,0,none⟩)])/\Bx w' g 3 [.int .i64 k]/\w.heap.size<=g/\Below w.heap.size w w'):=by
 go_enter Tryz.func205,Tryz.ntmps205
 go_wp2
 go_ret
 exact⟨w.heap.size,rfl,Bx.new w 3 _,Nat.le_refl _,ag _ _⟩
theorem ed (F:Fn)(xs ys:Array Value)(w:World):Calls Tryz.prog 203 #[.func F xs ys] w (aG (.agg #[.func F xs ys,.int .i64 1,.int .i64 1]) w):=by
 obtain⟨W,hW⟩:∃W,w.alloc (.cells #[.nilFunc,.int .i64 0,.int .i64 0] 168)=W:=⟨_,rfl⟩;have hb:Below w.heap.size w W:=by rw[<- hW];exact ag _ _
 have hB:Bx W w.heap.size 168 [.nilFunc,.int .i64 0,.int .i64 0]:=by rw[<- hW];exact Bx.new w 168 _
 have hE:=((hB.set_ 0 (.func F xs ys)).set_ 1 (.int .i64 1)).set_ 2 (.int .i64 1);have hb2:=((hb.setCell (p:=⟨w.heap.size,0,none⟩) (Nat.le_refl _) (.func F xs ys)).setCell (p:=⟨w.heap.size,1,none⟩) (Nat.le_refl _) (.int .i64 1)).setCell (p:=⟨w.heap.size,2,none⟩) (Nat.le_refl _) (.int .i64 1);have HH:=hid (And.intro hE hb2);have c0:=hB.cell 0;have c1:=hB.cell 1;have c2:=hB.cell 2;have f0:=hB.frozen 0;have f1:=hB.frozen 1;have f2:=hB.frozen 2;simp only[List.getElem?_cons_zero,List.getElem?_cons_succ]at c0 c1 c2;clear hE hb2 hb hB;have hst:(store ⟨w.heap.size,0,none⟩ (.func F xs ys)).run Tryz.prog W=.ok () (W.setCell ⟨w.heap.size,0,none⟩ (.func F xs ys)):=by
  rw[run_store _ _ _ _ _ rfl,c0];simp[f0]
 go_enter Tryz.func203,Tryz.ntmps203
 go_wp2;obtain⟨hE,hb2⟩:=HH.out;have r0:=hE.cell 0;have r1:=hE.cell 1;have r2:=hE.cell 2;simp only[List.set_cons_zero,List.set_cons_succ,List.getElem?_cons_zero,List.getElem?_cons_succ]at r0 r1 r2;generalize ((W.setCell ⟨w.heap.size,0,none⟩ (.func F xs ys)).setCell ⟨w.heap.size,1,none⟩ (.int .i64 1)).setCell ⟨w.heap.size,2,none⟩ (.int .i64 1)=W3 at *
 exact bodyPost_ret (v :=.agg #[.func F xs ys,.int .i64 1,.int .i64 1]) (by simp[results,Tryz.f203,go_sem,r0,r1,r2]) rfl ⟨rfl,hb2⟩
theorem j5 (F:Fn)(xs ys:Array Value)(w:World):Calls Tryz.prog 208 #[.func F xs ys] w (aG (.agg #[.func F xs ys,.int .i64 0,.int .i64 9223372036854775807]) w):=by
 obtain⟨W,hW⟩:∃W,w.alloc (.cells #[.nilFunc,.int .i64 0,.int .i64 0] 168)=W:=⟨_,rfl⟩;have hb:Below w.heap.size w W:=by rw[<- hW];exact ag _ _
 have hB:Bx W w.heap.size 168 [.nilFunc,.int .i64 0,.int .i64 0]:=by rw[<- hW];exact Bx.new w 168 _
 have hE:=((hB.set_ 0 (.func F xs ys)).set_ 1 (.int .i64 0)).set_ 2 (.int .i64 9223372036854775807);have hb2:=((hb.setCell (p:=⟨w.heap.size,0,none⟩) (Nat.le_refl _) (.func F xs ys)).setCell (p:=⟨w.heap.size,1,none⟩) (Nat.le_refl _) (.int .i64 0)).setCell (p:=⟨w.heap.size,2,none⟩) (Nat.le_refl _) (.int .i64 9223372036854775807);have HH:=hid (And.intro hE hb2);have c0:=hB.cell 0;have c1:=hB.cell 1;have c2:=hB.cell 2;have f0:=hB.frozen 0;have f1:=hB.frozen 1;have f2:=hB.frozen 2;simp only[List.getElem?_cons_zero,List.getElem?_cons_succ]at c0 c1 c2;clear hE hb2 hb hB;have hst:(store ⟨w.heap.size,0,none⟩ (.func F xs ys)).run Tryz.prog W=.ok () (W.setCell ⟨w.heap.size,0,none⟩ (.func F xs ys)):=by
  rw[run_store _ _ _ _ _ rfl,c0];simp[f0]
 go_enter Tryz.func208,Tryz.ntmps208
 go_wp2;obtain⟨hE,hb2⟩:=HH.out;have r0:=hE.cell 0;have r1:=hE.cell 1;have r2:=hE.cell 2;simp only[List.set_cons_zero,List.set_cons_succ,List.getElem?_cons_zero,List.getElem?_cons_succ]at r0 r1 r2;generalize ((W.setCell ⟨w.heap.size,0,none⟩ (.func F xs ys)).setCell ⟨w.heap.size,1,none⟩ (.int .i64 0)).setCell ⟨w.heap.size,2,none⟩ (.int .i64 9223372036854775807)=W3 at *
 exact bodyPost_ret (v :=.agg #[.func F xs ys,.int .i64 0,.int .i64 9223372036854775807]) (by simp[results,Tryz.f208,go_sem,r0,r1,r2]) rfl ⟨rfl,hb2⟩
theorem A_ (F:Fn)(xs ys:Array Value)(w:World):Calls Tryz.prog 212 #[.func F xs ys] w (aG (.agg #[.func F xs ys,.int .i64 0,.int .i64 1]) w):=by
 obtain⟨W,hW⟩:∃W,w.alloc (.cells #[.nilFunc,.int .i64 0,.int .i64 0] 168)=W:=⟨_,rfl⟩;have hb:Below w.heap.size w W:=by rw[<- hW];exact ag _ _
 have hB:Bx W w.heap.size 168 [.nilFunc,.int .i64 0,.int .i64 0]:=by rw[<- hW];exact Bx.new w 168 _
 have hE:=((hB.set_ 0 (.func F xs ys)).set_ 1 (.int .i64 0)).set_ 2 (.int .i64 1);have hb2:=((hb.setCell (p:=⟨w.heap.size,0,none⟩) (Nat.le_refl _) (.func F xs ys)).setCell (p:=⟨w.heap.size,1,none⟩) (Nat.le_refl _) (.int .i64 0)).setCell (p:=⟨w.heap.size,2,none⟩) (Nat.le_refl _) (.int .i64 1);have HH:=hid (And.intro hE hb2);have c0:=hB.cell 0;have c1:=hB.cell 1;have c2:=hB.cell 2;have f0:=hB.frozen 0;have f1:=hB.frozen 1;have f2:=hB.frozen 2;simp only[List.getElem?_cons_zero,List.getElem?_cons_succ]at c0 c1 c2;clear hE hb2 hb hB;have hst:(store ⟨w.heap.size,0,none⟩ (.func F xs ys)).run Tryz.prog W=.ok () (W.setCell ⟨w.heap.size,0,none⟩ (.func F xs ys)):=by
  rw[run_store _ _ _ _ _ rfl,c0];simp[f0]
 go_enter Tryz.func212,Tryz.ntmps212
 go_wp2;obtain⟨hE,hb2⟩:=HH.out;have r0:=hE.cell 0;have r1:=hE.cell 1;have r2:=hE.cell 2;simp only[List.set_cons_zero,List.set_cons_succ,List.getElem?_cons_zero,List.getElem?_cons_succ]at r0 r1 r2;generalize ((W.setCell ⟨w.heap.size,0,none⟩ (.func F xs ys)).setCell ⟨w.heap.size,1,none⟩ (.int .i64 0)).setCell ⟨w.heap.size,2,none⟩ (.int .i64 1)=W3 at *
 exact bodyPost_ret (v :=.agg #[.func F xs ys,.int .i64 0,.int .i64 1]) (by simp[results,Tryz.f212,go_sem,r0,r1,r2]) rfl ⟨rfl,hb2⟩
theorem aW (A:Option Addr)(n c:Nat)(w:World):Calls Tryz.prog 207 #[.slice A n c] w (λe w'=>∃g,e=.returned (.func (.func 250) #[] #[.pointer (some ⟨g,0,none⟩)])/\Bx w' g 192 [.slice A n c]/\w.heap.size<=g/\Below w.heap.size w w'):=by
 go_enter Tryz.func207,Tryz.ntmps207
 go_wp2
 go_ret
 exact⟨w.heap.size,rfl,Bx.new w 192 _,Nat.le_refl _,ag _ _⟩
structure Pt where
 f:Int->Bool
 lo:Nat
 hi:Nat
def fw (f:Int->Bool):List Int->Nat
 | []=>0
 |x :: l=>if f x=true then fw f l+1 else 0
theorem kN (f:Int->Bool):∀l,fw f l<=l.length
 | []=>Nat.le_refl _
 |x :: l=>by
  unfold fw;have:=kN f l;split
  ·rw[List.length_cons];omega
  ·omega
theorem zQ (f:Int->Bool):∀(l:List Int) (i:Nat) (h:i<l.length),i<=fw f l->(i<fw f l↔f l[i]=true)
 |x :: l,0,_,_=>by
  show 0<fw f (x :: l)↔f x=true;unfold fw;split<;>simp_all
 |x :: l,i+1,h,hi=>by
  unfold fw at hi |-;by_cases e:f x=true
  ·rw[if_pos e]at hi |-;have:=zQ f l i (by simpa using h) (by omega);rw[List.getElem_cons_succ,<- this];omega
  ·rw[if_neg e]at hi;omega
def tk (p:Pt)(l:List Int):Nat:=min p.hi (fw p.f l)
def bY:List Pt->List Int->Bool
 | [],l=>decide (l.length=0)
 |p :: ps,l=>decide (p.lo<=tk p l)&&bY ps (l.drop (tk p l))
def bG (f:Int->Bool):Pt:=⟨f,1,1⟩
def fB (f:Int->Bool):Pt:=⟨f,0,9223372036854775807⟩
def gH (f:Int->Bool):Pt:=⟨f,0,1⟩
def iy (m:Int)(k:Int):Bool:=k==m
theorem dV (f:Int->Bool)(ps:List Pt):bY (bG f :: ps) []=false:=by
 show(decide (1<=min 1 0)&&_)=false;rfl
theorem aD (f:Int->Bool)(ps:List Pt)(x:Int)(l:List Int):bY (bG f :: ps) (x :: l)=(f x&&bY ps l):=by
 by_cases e:f x=true
 ·have h:tk (bG f) (x :: l)=1:=by
   show min 1 (fw f (x :: l))=1;unfold fw;rw[if_pos e];omega
  show(decide (1<=tk (bG f) (x :: l))&&bY ps ((x :: l).drop (tk (bG f) (x :: l))))=_;rw[h,e];rfl
 ·have h:tk (bG f) (x :: l)=0:=by
   show min 1 (fw f (x :: l))=0;unfold fw;rw[if_neg e];omega
  show(decide (1<=tk (bG f) (x :: l))&&bY ps ((x :: l).drop (tk (bG f) (x :: l))))=_;rw[h,Bool.eq_false_iff.2 e];rfl
theorem lQ (f:Int->Bool)(ps:List Pt)(l:List Int)(hl:l.length<=4000):bY (fB f :: ps) l=bY ps (l.drop (fw f l)):=by
 have h:tk (fB f) l=fw f l:=by
  show min 9223372036854775807 (fw f l)=fw f l;have:=kN f l;omega
 show(decide (0<=tk (fB f) l)&&bY ps (l.drop (tk (fB f) l)))=_;rw[h,decide_eq_true (Nat.zero_le _)];rfl
theorem wM (f:Int->Bool):∀l:List Int,decide ((l.drop (fw f l)).length=0)=l.all f
 | []=>rfl
 |x :: l=>by
  have h:=wM f l;rw[List.length_drop]at h;rw[List.length_drop,List.all_cons];unfold fw;by_cases e:f x=true
  ·rw[if_pos e,e,Bool.true_and,<- h,List.length_cons,show l.length+1-(fw f l+1)=l.length-fw f l by omega]
  ·rw[if_neg e,Bool.eq_false_iff.2 e,List.length_cons];simp
theorem mO (f:Int->Bool)(l:List Int)(hl:l.length<=4000):bY [fB f] l=l.all f:=by
 rw[lQ f [] l hl];exact wM f l
theorem Bb (f:Int->Bool)(l:List Int):bY [gH f] l=(decide (l.length<=1)&&l.all f):=by
 match l with
 | []=>rfl
 | [x]=>
  by_cases e:f x=true
  ·have h:tk (gH f) [x]=1:=by
    show min 1 (fw f [x])=1;unfold fw;rw[if_pos e];omega
   show(decide (0<=tk (gH f) [x])&&bY [] ([x].drop (tk (gH f) [x])))=_;rw[h];simp[bY,e]
  ·have h:tk (gH f) [x]=0:=by
    show min 1 (fw f [x])=0;unfold fw;rw[if_neg e];omega
   show(decide (0<=tk (gH f) [x])&&bY [] ([x].drop (tk (gH f) [x])))=_;rw[h];simp[bY,e]
 |x :: y :: l=>
  have h:tk (gH f) (x :: y :: l)<=1:=Nat.min_le_left _ _;show(decide (0<=tk (gH f) (x :: y :: l))&&bY [] ((x :: y :: l).drop (tk (gH f) (x :: y :: l))))=_;have h2:((x :: y :: l).drop (tk (gH f) (x :: y :: l))).length≠0:=by rw[List.length_drop];simp only[List.length_cons];omega
  have h3:bY [] ((x :: y :: l).drop (tk (gH f) (x :: y :: l)))=false:=decide_eq_false h2;rw[h3];simp
theorem rE (a:Int):∀l,gN a l=fw (iy a) l
 | []=>rfl
 |x :: l=>by
  unfold gN fw;rw[rE a l];by_cases e:x=a
  ·rw[if_pos e,if_pos (by simp[iy,e])]
  ·rw[if_neg e,if_neg (by simp[iy,e])]
theorem KW (l:List Int)(a b:Int)(hl:l.length<=4000):bY [fB (iy a),fB (iy b)] l=bi l a b 0:=by
 rw[lQ _ _ _ hl,lQ _ _ _ (by rw[List.length_drop];omega)];unfold bi lh vX;rw[if_pos rfl,rE,rE];show decide (List.length _=0)=_;rw[List.length_drop,List.length_drop];have h1:=kN (iy a) l;have h2:=kN (iy b) (l.drop (fw (iy a) l));rw[List.length_drop]at h2;rw[decide_eq_decide];omega
theorem KX (l:List Int)(a b c:Int)(hl:l.length<=4000)(hc:c≠0):bY [fB (iy a),fB (iy b),bG (iy c)] l=bi l a b c:=by
 rw[lQ _ _ _ hl,lQ _ _ _ (by rw[List.length_drop];omega)];unfold bi lh vX;rw[if_neg hc,rE,rE];have h1:=kN (iy a) l;have h2:=kN (iy b) (l.drop (fw (iy a) l));rw[List.length_drop]at h2;rw[List.drop_drop];generalize fw (iy b) (l.drop (fw (iy a) l))=r2 at *
 generalize fw (iy a) l=r1 at *
 have hl2:l=l.take (r1+r2)++l.drop (r1+r2):=(List.take_append_drop _ _).symm;have hlen:(l.take (r1+r2)).length=r1+r2:=by rw[List.length_take];omega
 generalize hd:l.drop (r1+r2)=d at *
 generalize l.take (r1+r2)=u at *
 subst hl2;rw[List.length_append,hlen]
 match d with
 | []=>rw[dV];simp
 | [x]=>
  rw[aD];simp only[List.length_cons,List.length_nil,List.getD_eq_getElem?_getD];rw[List.getElem?_append_right (by omega),hlen];simp[bY,iy];rw[Bool.eq_iff_iff];simp
 |x :: y :: d=>
  rw[aD];have e:bY [] (y :: d)=false:=by simp[bY]
  rw[e];simp
def partsOf (kd:Int):List Pt:=
 if kd=1 then [fB (iy 2),fB (iy 3)] else if kd=3 then [fB (iy 4),fB (iy 5),bG (iy 6)] else if kd=6 then [fB dA]
 else if kd=7\/kd=15\/kd=17\/kd=23\/kd=26 then [bG aL]
 else if kd=8\/kd=27 then [bG aL,bG aL]
 else if kd=9 then [bG (iy 18)]
 else if kd=10 then [bG (iy 18),bG aL]
 else if kd=11 then [bG aL,bG (iy 6),bG (iy 6)]
 else if kd=12 then [bG aL,bG (iy 6)]
 else if kd=13 then [bG (iy 19),fB aL]
 else if kd=14 then [gH aL]
 else if kd=16 then [bG (iy 6),bG (iy 6)]
 else []
theorem KY (f:Int->Bool)(l:List Int):bY [bG f] l=(decide (l.length=1)&&l.all f):=by
 match l with
 | []=>rw[dV];rfl
 | [x]=>rw[aD];simp[bY]
 |x :: y :: l=>rw[aD];simp[bY]
theorem Gc (f g:Int->Bool)(l:List Int):bY [bG f,bG g] l=(decide (l.length=2)&&f (l.getD 0 0)&&g (l.getD 1 0)):=by
 match l with
 | []=>rw[dV];rfl
 | [x]=>rw[aD,dV];simp
 | [x,y]=>rw[aD,aD];simp[bY]
 |x :: y :: z :: l=>rw[aD,aD];simp[bY]
theorem MM (f g h:Int->Bool)(l:List Int):bY [bG f,bG g,bG h] l=(decide (l.length=3)&&f (l.getD 0 0)&&g (l.getD 1 0)&&h (l.getD 2 0)):=by
 match l with
 | []=>rw[dV];rfl
 | [x]=>rw[aD,dV];simp
 | [x,y]=>rw[aD,aD,dV];simp
 | [x,y,z]=>rw[aD,aD,aD];simp[bY,Bool.and_assoc]
 |x :: y :: z :: u :: l=>rw[aD,aD,aD];simp[bY]
theorem uZ (m k:Int):iy m k=decide (k=m):=by unfold iy;rw[Bool.eq_iff_iff];simp
theorem Nw (l:List Int):bY [bG aL,bG aL] l=(decide (l.length=2)&&bE l):=by
 rw[Gc]
 match l with
 | []=>rfl
 | [x]=>simp
 | [x,y]=>simp[bE]
 |x :: y :: z :: l=>simp
theorem Ny (l:List Int):bY [bG (iy 18)] l=(decide (l.length=1)&&decide (l.getD 0 0=18)):=by
 rw[KY]
 match l with
 | []=>rfl
 | [x]=>simp[uZ]
 |x :: y :: l=>simp
theorem MN (l:List Int)(hl:l.length<=4000):bY [bG (iy 19),fB aL] l=(decide (1<=l.length)&&decide (l.getD 0 0=19)&&bE (l.drop 1)):=by
 match l with
 | []=>rw[dV];rfl
 |x :: l=>
  rw[aD,mO _ _ (by simp at hl;omega),uZ];simp[bE]
theorem Gd (kd:Int)(l:List Int)(hl:l.length<=4000):bY (partsOf kd) l=ay kd l:=by
 unfold partsOf ay
 repeat rw[apply_ite (λp=>bY p l)]
 rw[KW l 2 3 hl,KX l 4 5 6 hl (by decide),mO _ _ hl,KY,Nw,Ny,Gc,MM,Gc,MN l hl,Bb,Gc];simp only[uZ];rfl
theorem KZ (k m:Int)(g:Nat)(w:World)(h:w.cell? ⟨g,0,none⟩=some (.int .i64 m)):Calls Tryz.prog 249 #[.int .i64 k,.pointer (some ⟨g,0,none⟩)] w λe w'=>e=.returned (.bool (iy m k))/\w=w':=by
 by_cases e:k=m
 ·have HE:=hid (show iy m k=true by simp[iy,e]);subst e;go_enter Tryz.func249,Tryz.ntmps249
  go_wp2
  go_ret
  exact⟨aa HE.out.symm,rfl⟩
 ·have HE:=hid (show iy m k=false by simp[iy,e]);have q:(k==m)=false:=by simp[e]
  clear e;go_enter Tryz.func249,Tryz.ntmps249
  go_wp2
  go_ret
  exact⟨aa HE.out.symm,rfl⟩
theorem JA (k:Int)(w:World):Calls Tryz.prog 210 #[.int .i64 k] w λe w'=>e=.returned (.bool (dA k))/\w=w':=by
 by_cases h1:7<=k
 ·by_cases h2:k<=17
  ·have HE:=hid (show dA k=true by unfold dA;simp[h1,h2]);have q1:decide (7<=k)=true:=decide_eq_true h1;have q2:decide (k<=17)=true:=decide_eq_true h2;go_enter Tryz.func210,Tryz.ntmps210
   go_wp2
   go_ret
   exact⟨aa HE.out.symm,rfl⟩
  ·have HE:=hid (show dA k=false by unfold dA;simp[h1,h2]);have q1:decide (7<=k)=true:=decide_eq_true h1;have q2:decide (k<=17)=false:=decide_eq_false h2;go_enter Tryz.func210,Tryz.ntmps210
   go_wp2
   go_ret
   exact⟨aa HE.out.symm,rfl⟩
 ·have HE:=hid (show dA k=false by unfold dA;simp[h1]);have q1:decide (7<=k)=false:=decide_eq_false h1;go_enter Tryz.func210,Tryz.ntmps210
  go_wp2
  go_ret
  exact⟨aa HE.out.symm,rfl⟩
theorem JB (k:Int)(w:World):Calls Tryz.prog 204 #[.int .i64 k] w λe w'=>e=.returned (.bool (aL k))/\w=w':=by
 by_cases h1:20<=k
 ·by_cases h2:k<=27
  ·have HE:=hid (show aL k=true by unfold aL;simp[h1,h2]);have q1:decide (20<=k)=true:=decide_eq_true h1;have q2:decide (k<=27)=true:=decide_eq_true h2;go_enter Tryz.func204,Tryz.ntmps204
   go_wp2
   go_ret
   exact⟨aa HE.out.symm,rfl⟩
  ·have HE:=hid (show aL k=false by unfold aL;simp[h1,h2]);have q1:decide (20<=k)=true:=decide_eq_true h1;have q2:decide (k<=27)=false:=decide_eq_false h2;go_enter Tryz.func204,Tryz.ntmps204
   go_wp2
   go_ret
   exact⟨aa HE.out.symm,rfl⟩
 ·have HE:=hid (show aL k=false by unfold aL;simp[h1]);have q1:decide (20<=k)=false:=decide_eq_false h1;go_enter Tryz.func204,Tryz.ntmps204
  go_wp2
  go_ret
  exact⟨aa HE.out.symm,rfl⟩
def u_ (w:World)(F:Nat)(ys:Array Value)(f:Int->Bool):Prop:=
 (∃g m,F=249/\ys = #[.pointer (some ⟨g,0,none⟩)]/\w.cell? ⟨g,0,none⟩=some (.int .i64 m)/\g<w.heap.size/\f=iy m)\/(F=204/\ys = #[]/\f=aL)\/(F=210/\ys = #[]/\f=dA)
theorem u_.below {w w':World}{F:Nat}{ys:Array Value}{f:Int->Bool}(h:u_ w F ys f)(hb:Below w.heap.size w w'):u_ w' F ys f:=by
 rcases h with⟨g,m,h1,h2,h3,h4,h5⟩ |h |h
 ·exact .inl ⟨g,m,h1,h2,(hb.cell (p:=⟨g,0,none⟩) h4).trans h3,Nat.lt_of_lt_of_le h4 hb.size,h5⟩
 ·exact .inr (.inl h)
 ·exact .inr (.inr h)
theorem K6:Own 249:=⟨_,Tryz.func249,by kernel_rfl,by kernel_rfl⟩
theorem K7:Own 204:=⟨_,Tryz.func204,by kernel_rfl,by kernel_rfl⟩
theorem mJ:Own 210:=⟨_,Tryz.func210,by kernel_rfl,by kernel_rfl⟩
theorem u_.own {w:World}{F:Nat}{ys:Array Value}{f:Int->Bool}(h:u_ w F ys f):Own F:=by
 rcases h with⟨g,m,rfl,_⟩ |⟨rfl,_⟩ |⟨rfl,_⟩
 ·exact K6
 ·exact K7
 ·exact mJ
theorem u_.calls {w:World}{F:Nat}{ys:Array Value}{f:Int->Bool}(h:u_ w F ys f)(k:Int):Calls Tryz.prog F (#[.int .i64 k]++ys) w λe w'=>e=.returned (.bool (f k))/\w=w':=by
 rcases h with⟨g,m,rfl,rfl,h3,_,rfl⟩ |⟨rfl,rfl,rfl⟩ |⟨rfl,rfl,rfl⟩
 ·exact KZ k m g w h3
 ·exact JB k w
 ·exact JA k w
def Parts (w:World)(A:Option Addr)(ps:List Pt):Prop:=
 0<ps.length->∃b off,A=some ⟨b,off,none⟩/\b<w.heap.size/\∀j (hj:j<ps.length),∃F ys,w.cell? ⟨b,off+j*3,none⟩=some (.func (.func F) #[] ys)/\w.cell? ⟨b,off+j*3+1,none⟩=some (.int .i64 (ps[j].lo:Int)) /\
  w.cell? ⟨b,off+j*3+2,none⟩=some (.int .i64 (ps[j].hi:Int))/\u_ w F ys ps[j].f/\ps[j].hi<=9223372036854775807
theorem Parts.below {w w':World}{A:Option Addr}{ps:List Pt}(h:Parts w A ps)(hb:Below w.heap.size w w'):Parts w' A ps:=λh0=>by
 obtain⟨b,off,e,hl,hc⟩:=h h0;refine⟨b,off,e,Nat.lt_of_lt_of_le hl hb.size,λj hj =>?_⟩;obtain⟨F,ys,c0,c1,c2,hF,hi⟩:=hc j hj;exact⟨F,ys,(hb.cell (p:=⟨b,off+j*3,none⟩) hl).trans c0,(hb.cell (p:=⟨b,off+j*3+1,none⟩) hl).trans c1,(hb.cell (p:=⟨b,off+j*3+2,none⟩) hl).trans c2,hF.below hb,hi⟩
theorem rF (b off n c k:Nat)(h1:k<=n)(h2:n<=c)(w:World):(Instr.slice 35 (.slice (some ⟨b,off,none⟩) n c) (some (.int .i64 (k:Int))) none none).run Tryz.prog w=.ok (.slice (some ⟨b,if c=k then off else off+k,none⟩) (n-k) (c-k)) w:=by
 by_cases h3:c=k
 ·obtain rfl:n=k:=by omega
  subst h3;simp[go_sem,Tryz.underlying35]
 ·simp[go_sem,Tryz.underlying35];rw[if_pos (by omega),if_neg (by omega),if_neg h3]
theorem Ints.drop {w:World}{b off:Nat}{l:List Int}(h:Ints w (some ⟨b,off,none⟩) l)(k c:Nat)(hc:l.length<=c):Ints w (some ⟨b,if c=k then off else off+k,none⟩) (l.drop k):=λh0=>by
 rw[List.length_drop]at h0;obtain⟨b',off',e,hl,hcc⟩:=h (by omega);cases e;rw[if_neg (by omega)];refine⟨b,off+k,rfl,hl,λj hj =>?_⟩;rw[List.length_drop]at hj;have:=hcc (k+j) (by omega);rw[List.getElem_drop,Nat.add_assoc];exact this
section
variable {ops:Array Oper} {C:World->Prop} {Q:Act->Prop} {rest:List Oper} {d:Option Tmp} {ty:TypeId} {p:String} {af:Array Edge} {gd:Option (Nat × Bool)} {a:Act}
theorem ve {c x y:Operand}{v:Value}(hw:Region.wanted ⟨d,.pick c x y,ty,p,af,gd⟩ (yielded ops a.tmps)=true)(hc:a.eval c=.bool false)(hx:a.eval y=v)
  (h:wpQuiet Tryz.prog ops C Q rest (a.put d v)):wpQuiet Tryz.prog ops C Q (⟨d,.pick c x y,ty,p,af,gd⟩ :: rest) a:=
 q_op hw (λw _=>by unfold Oper.quietAt execOp;simp[hc,hx,asBool,Oper.quietUpon]) h
theorem rG {x y:Operand}{u v:Int}{b:Bool}(hw:Region.wanted ⟨d,.binOp .lss 3 x y 3,ty,p,af,gd⟩ (yielded ops a.tmps)=true)(hx:a.eval x=.int .i64 u)(hy:a.eval y=.int .i64 v)(hb:decide (u<v)=b)
  (h:wpQuiet Tryz.prog ops C Q rest (a.put d (.bool b))):wpQuiet Tryz.prog ops C Q (⟨d,.binOp .lss 3 x y 3,ty,p,af,gd⟩ :: rest) a:=
 Kq hw hx hy (λw=>by simp[go_sem]) (λw=>by simp[go_sem,hb]) h
theorem Gf {F:Nat}{z:Operand}{xs:Array Operand}{ts:Array TypeId}{args ys:Array Value}{v:Value}(hF:Own F)(hw:Region.wanted ⟨d,.call {callee :=.value z,args:=xs,argTypes:=ts},ty,p,af,gd⟩ (yielded ops a.tmps)=true)
  (hz:a.eval z=.func (.func F) #[] ys) (ha':(xs.toList.map a.eval).toArray=args) (hc:∀w,C w->Calls Tryz.prog F (args++ys) w λe w'=>e=.returned v/\C w')
  (h:wpQuiet Tryz.prog ops C Q rest (a.put d v)):wpQuiet Tryz.prog ops C Q (⟨d,.call {callee :=.value z,args:=xs,argTypes:=ts},ty,p,af,gd⟩ :: rest) a:=
 q_op hw (λw hC=>by
  unfold Oper.quietAt execOp
  have ha:xs.map a.eval=args:=by rw[<- ha'];exact Array.ext' (by rw[Array.toList_map])
  simp only[resolve,hz,ha,Deferred.ofValue,invoke,Sem.run_bind,Sem.run_pure,Result.andThen_ok]
  have e2:(#[]++args:Array Value)++ys=args++ys:=by simp
  rw[e2,nO hF]
  exact⟨rfl,hc w hC⟩) h
end
theorem pO {id:Nat}{Q:Exit->Act->World->Prop}{a:Act}(w0:World){w:World}{l:List Oper}(hB:Region.lexB .any l.toArray=true)(hw:Cl w0 w)
  (h:wpQuiet Tryz.prog l.toArray (Cl w0) (λa'=>∀w',Cl w0 w'->Q .normal a' w') l a):(Code.region id l.toArray true).wp Tryz.prog Q a w:=
 wp_region_quiet (C:=Cl w0) (by kernel_rfl) hB ⟨hw.os,hw.tape,hw.output,hw.size,hw.block⟩ (by simpa using h)
theorem sK (b:Nat)(w:World):(Instr.fieldAt 168 (.pointer (some ⟨b,0,none⟩)) 0).run Tryz.prog w=.ok (.pointer (some ⟨b,0,none⟩)) w:=by kernel_rfl
theorem mP (b:Nat)(w:World):(Instr.fieldAt 168 (.pointer (some ⟨b,0,none⟩)) 2).run Tryz.prog w=.ok (.pointer (some ⟨b,2,none⟩)) w:=by kernel_rfl
theorem yJ {w:World}{b off:Nat}{F:Nat}{ys:Array Value}(h:w.cell? ⟨b,off,none⟩=some (.func (.func F) #[] ys)):(Instr.loadAt 76 (.pointer (some ⟨b,off,none⟩))).run Tryz.prog w=.ok (.func (.func F) #[] ys) w:=by
 simp[go_sem,h]
theorem DY (bK oK0 n0 c0:Nat)(ks:List Int)(g:Nat)(A:Option Addr)(m cc:Nat)(ps:List Pt)(w:World)(hI:Ints w (some ⟨bK,oK0,none⟩) ks)(hn:n0=ks.length)(hl:n0<=4000)(hcap:n0<=c0)(hg:w.cell? ⟨g,0,none⟩=some (.slice A m cc))(hP:Parts w A ps)(hm:m=ps.length)(hml:m<=10):Calls Tryz.prog 250 #[.slice (some ⟨bK,oK0,none⟩) n0 c0,.pointer (some ⟨g,0,none⟩)] w (au (bY ps ks) w):=by
 have HI:=hid hI;have HP:=hid hP;have HM:=hid hm;have HN:=hid hn;clear hI hP hm hn;go_enter Tryz.func250,Tryz.ntmps250
 go_wp2
 go_loopw [0,9] (λkv i wr=>∃(q oK n c:Nat) (ks':List Int),q<=m/\i=.int .i64 (q:Int)/\kv=.slice (some ⟨bK,oK,none⟩) n c/\n=ks'.length/\n<=c/\n<=4000/\Ints w (some ⟨bK,oK,none⟩) ks'/\bY (ps.drop q) ks'=bY ps ks/\Below w.heap.size w wr) (λ_ i _=>m-(intOf i).toNat)
 case atStart=>exact⟨0,oK0,n0,c0,ks,Nat.zero_le _,rfl,rfl,HN.out,hcap,hl,HI.out,rfl,Below.refl _ _⟩
 case round=>
  clear HI HN hcap hl;obtain⟨q,oK,n,c,ks',hq,rfl,rfl,hn,hcap,hl,hI,hrow,hbw⟩:=hrel;have HN:=hid hn;have HI:=hid hI;have HROW:=hid hrow;clear hn hI hrow;by_cases hqm:q<m
  ·have hqz:(q:Int)<(m:Int):=by omega
   have hql:q<ps.length:=by rw[<- HM.out];exact hqm
   obtain⟨b,off,rfl,hb,hc⟩:=HP.out (by omega);obtain⟨F,ys,d0,d1,d2,hF,hhi⟩:=hc q hql;have HD:=hid (show ps.drop q=ps[q] :: ps.drop (q+1)from List.drop_eq_getElem_cons hql);clear hc;generalize ps[q]=P at *
   obtain⟨f,lo,hi⟩:=P;dsimp only at d1 d2 hF hhi;have d0:=(hbw.cell (p:=⟨b,off+q*3,none⟩) hb).trans d0;have d1:=(hbw.cell (p:=⟨b,off+q*3+1,none⟩) hb).trans d1;have d2:=(hbw.cell (p:=⟨b,off+q*3+2,none⟩) hb).trans d2;obtain⟨W,hW⟩:∃W,wr.alloc (.cells #[.nilFunc,.int .i64 0,.int .i64 0] 168)=W:=⟨_,rfl⟩;have hbW:Below w.heap.size w W:=by rw[<- hW];exact hbw.alloc hbw.size _
   have hB:Bx W wr.heap.size 168 [.nilFunc,.int .i64 0,.int .i64 0]:=by rw[<- hW];exact Bx.new wr 168 _
   have hE:=((hB.set_ 0 (.func (.func F) #[] ys)).set_ 1 (.int .i64 (lo:Int))).set_ 2 (.int .i64 (hi:Int));have hb2:=((hbW.setCell (p:=⟨wr.heap.size,0,none⟩) hbw.size (.func (.func F) #[] ys)).setCell (p:=⟨wr.heap.size,1,none⟩) hbw.size (.int .i64 (lo:Int))).setCell (p:=⟨wr.heap.size,2,none⟩) hbw.size (.int .i64 (hi:Int));have HH:=hid (And.intro hE hb2);have e0:=hB.cell 0;have e1:=hB.cell 1;have e2:=hB.cell 2;have f0:=hB.frozen 0;have f1:=hB.frozen 1;have f2:=hB.frozen 2;simp only[List.getElem?_cons_zero,List.getElem?_cons_succ]at e0 e1 e2;have HF:=hid hF;clear hE hb2 hbW hB hF;have hst:(store ⟨wr.heap.size,0,none⟩ (.func (.func F) #[] ys)).run Tryz.prog W=.ok () (W.setCell ⟨wr.heap.size,0,none⟩ (.func (.func F) #[] ys)):=by
    rw[run_store _ _ _ _ _ rfl,e0];simp[f0]
   go_wp2;clear hst d0 d1 d2;obtain⟨hB3,hb3⟩:=HH.out;simp only[List.set_cons_zero,List.set_cons_succ]at hB3;clear HH e0 e1 e2 f0 f1 f2 hW;obtain⟨g5,hg5⟩:∃g5,g5=wr.heap.size:=⟨_,rfl⟩;rw[<- hg5]at hB3 hb3 |-;clear hg5 hbw;generalize ((W.setCell ⟨g5,0,none⟩ (.func (.func F) #[] ys)).setCell ⟨g5,1,none⟩ (.int .i64 (lo:Int))).setCell ⟨g5,2,none⟩ (.int .i64 (hi:Int))=W3 at *
   have HF:=hid (HF.out.below hb3);have hOwn:=HF.out.own;have hBK:∀t (h:t<ks'.length),W3.cell? ⟨bK,oK+t,none⟩=some (.int .i64 ks'[t])/\bK<W3.heap.size:=λt h=>by
    obtain⟨b',o',e,hl',hc'⟩:=(HI.out.below hb3) (by omega);cases e;exact⟨hc' t h,hl'⟩
   have HBK:=hid hBK;clear hBK;obtain⟨T,hT⟩:∃T,T=tk ⟨f,lo,hi⟩ ks':=⟨_,rfl⟩;have hTn:T<=n:=by have:=kN f ks';have:=HN.out;unfold tk at hT;simp only at hT;omega
   have HT:=hid hT;have HD2:=hid (show bY ps ks=(decide (lo<=T)&&bY (ps.drop (q+1)) (ks'.drop T))by rw[<- HROW.out,HD.out,hT];rfl);have HRA:=hid (λ(t:Nat) (h1:t<=T) (h:t<ks'.length)=>zQ f ks' t h (by unfold tk at hT;simp only at hT;omega));have HTM:=hid (show T=min hi (fw f ks')from hT);clear hT
   go_loopw [6] (λtv wz=>∃t:Nat,t<=T/\tv=.int .i64 (t:Int)/\Below W3.heap.size W3 wz) (λtv _=>n-(intOf tv).toNat)
   case atStart=>exact⟨0,Nat.zero_le _,rfl,Below.refl _ _⟩
   case round=>
    obtain⟨t,ht,rfl,hbz⟩:=hrel;obtain⟨W4,rfl⟩:∃W4,W4=wr:=⟨_,rfl⟩;by_cases htn:t<n
    ·have qA:decide ((t:Int)<(n:Int))=true:=decide_eq_true (by omega);have htk:t<ks'.length:=by rw[<- HN.out];exact htn
     by_cases hth:t<hi
     ·have qB:decide ((t:Int)<(hi:Int))=true:=decide_eq_true (by omega);obtain⟨hck,hbK3⟩:=HBK.out t htk;have HR:=hid (HRA.out t ht htk);generalize ks'[t]=kk at *
      go_wp2;refine ak (λw'=>Below W3.heap.size W3 w') hbz λW5 hbz5 =>?_
      refine pO W3 (by kernel_rfl) hbz5 ?_;refine fC rfl rfl ?_;simp only[ap];refine fC rfl rfl ?_;simp only[ap];refine q_len (.inl rfl) rfl rfl ?_;simp only[ap];refine rG (b:=true) rfl rfl rfl qA ?_;simp only[ap];refine fC rfl rfl ?_;simp only[ap];refine fC rfl rfl ?_;simp only[ap];refine uH rfl rfl (mP _) ?_;simp only[ap];refine uG rfl rfl (λw' h=>aT (((hB3.below h hB3.lt).cell 2).trans rfl)) ?_;simp only[ap];refine rG (b:=true) rfl rfl rfl qB ?_;simp only[ap];refine yg rfl rfl rfl ?_;simp only[ap];refine fC rfl rfl ?_;simp only[ap];refine uH rfl rfl (sK _) ?_;simp only[ap];refine uG rfl rfl (λw' h=>yJ (((hB3.below h hB3.lt).cell 0).trans rfl)) ?_;simp only[ap];refine fC rfl rfl ?_;simp only[ap];refine fC rfl rfl ?_;simp only[ap];refine E_ rfl rfl rfl (qa _ _ _ _ _ htn) ?_;simp only[ap];refine uG rfl rfl (λw' h=>aT ((Below.cell h (p:=⟨bK,oK+t,none⟩) hbK3).trans hck)) ?_;simp only[ap];refine Gf (args := #[.int .i64 kk]) (v :=.bool (f kk)) hOwn rfl rfl rfl (λw' h=>((HF.out.below h).calls kk).mono (λe w'' hh=>⟨hh.1,hh.2▸h⟩)) ?_;simp only[ap];refine yg rfl rfl rfl ?_;simp only[ap];refine wpQuiet_nil ?_;intro W6 hC6;cases hfk:f kk with
      |true=>
       have HTT:=hid (show t+1<=T by have h1:=HR.out.2 hfk;have h2:=HTM.out;omega);go_wp2
       go_roundw
       case rel=>exact⟨t+1,HTT.out,by go_num,hC6⟩
       case measure=>simp[intOf];omega
      |false=>
       have HTT:=hid (show T=t by
        have h1:¬t<fw f ks':=λh=>by have:=HR.out.1 h;rw[hfk]at this;cases this
        have h2:=HTM.out;omega)
       clear hfk;rw[HTT.out]at HD2;obtain⟨hbW6⟩:Nonempty (Below w.heap.size w W6):=⟨Below.trans hb3 (Below.mono hC6 hb3.size)⟩;have r1:=((hB3.below hC6 hB3.lt).cell 1);simp only[List.getElem?_cons_zero,List.getElem?_cons_succ]at r1;by_cases hlo:lo<=t
       ·have q1:decide (t<lo)=false:=decide_eq_false (by omega);have HDD:=hid (show bY (ps.drop (q+1)) (ks'.drop t)=bY ps ks by rw[HD2.out,decide_eq_true hlo];rfl);have hsl:=rF bK oK n c t (by omega) hcap;have HIN:=hid (HI.out.drop t c (by have:=HN.out;omega));generalize (if c=t then oK else oK+t)=oN at *
        clear hlo;go_wp2
        go_roundw
        case rel=>exact⟨q+1,oN,n-t,c-t,ks'.drop t,by omega,by go_num,rfl,by rw[List.length_drop,HN.out],by omega,by omega,HIN.out,HDD.out,hbW6⟩
        case measure=>simp[intOf];omega
       ·have q1:decide (t<lo)=true:=decide_eq_true (by omega);have HDD:=hid (show bY ps ks=false by rw[HD2.out,decide_eq_false hlo];rfl);clear hlo;go_wp2
        go_ret
        exact⟨aa HDD.out.symm,hbW6⟩
     ·have qB:decide ((t:Int)<(hi:Int))=false:=decide_eq_false (by omega);have HTT:=hid (show T=t by have h2:=HTM.out;omega);go_wp2;refine ak (λw'=>Below W3.heap.size W3 w') hbz λW5 hbz5 =>?_
      refine pO W3 (by kernel_rfl) hbz5 ?_;refine fC rfl rfl ?_;simp only[ap];refine fC rfl rfl ?_;simp only[ap];refine q_len (.inl rfl) rfl rfl ?_;simp only[ap];refine rG (b:=true) rfl rfl rfl qA ?_;simp only[ap];refine fC rfl rfl ?_;simp only[ap];refine fC rfl rfl ?_;simp only[ap];refine uH rfl rfl (mP _) ?_;simp only[ap];refine uG rfl rfl (λw' h=>aT (((hB3.below h hB3.lt).cell 2).trans rfl)) ?_;simp only[ap];refine rG (b:=false) rfl rfl rfl qB ?_;simp only[ap];refine yg (v :=.bool false) rfl rfl rfl ?_;simp only[ap];refine fC (v :=.bool false) rfl rfl ?_;simp only[ap]
      go_big_quiet_skip
      go_big_quiet_skip
      go_big_quiet_skip
      go_big_quiet_skip
      go_big_quiet_skip
      go_big_quiet_skip
      go_big_quiet_skip
      refine ve rfl rfl rfl ?_;simp only[ap];refine wpQuiet_nil ?_;intro W6 hC6;rw[HTT.out]at HD2;obtain⟨hbW6⟩:Nonempty (Below w.heap.size w W6):=⟨Below.trans hb3 (Below.mono hC6 hb3.size)⟩;have r1:=((hB3.below hC6 hB3.lt).cell 1);simp only[List.getElem?_cons_zero,List.getElem?_cons_succ]at r1;by_cases hlo:lo<=t
      ·have q1:decide (t<lo)=false:=decide_eq_false (by omega);have HDD:=hid (show bY (ps.drop (q+1)) (ks'.drop t)=bY ps ks by rw[HD2.out,decide_eq_true hlo];rfl);have hsl:=rF bK oK n c t (by omega) hcap;have HIN:=hid (HI.out.drop t c (by have:=HN.out;omega));generalize (if c=t then oK else oK+t)=oN at *
       clear hlo;go_wp2
       go_roundw
       case rel=>exact⟨q+1,oN,n-t,c-t,ks'.drop t,by omega,by go_num,rfl,by rw[List.length_drop,HN.out],by omega,by omega,HIN.out,HDD.out,hbW6⟩
       case measure=>simp[intOf];omega
      ·have q1:decide (t<lo)=true:=decide_eq_true (by omega);have HDD:=hid (show bY ps ks=false by rw[HD2.out,decide_eq_false hlo];rfl);clear hlo;go_wp2
       go_ret
       exact⟨aa HDD.out.symm,hbW6⟩
    ·have qA:decide ((t:Int)<(n:Int))=false:=decide_eq_false (by omega);have HTT:=hid (show T=t by omega);go_wp2;refine ak (λw'=>Below W3.heap.size W3 w') hbz λW5 hbz5 =>?_
     refine pO W3 (by kernel_rfl) hbz5 ?_;refine fC rfl rfl ?_;simp only[ap];refine fC rfl rfl ?_;simp only[ap];refine q_len (.inl rfl) rfl rfl ?_;simp only[ap];refine rG (b:=false) rfl rfl rfl qA ?_;simp only[ap];refine fC (v :=.bool false) rfl rfl ?_;simp only[ap]
     go_big_quiet_skip
     go_big_quiet_skip
     go_big_quiet_skip
     go_big_quiet_skip
     refine ve (v :=.bool false) rfl rfl rfl ?_;simp only[ap];refine fC (v :=.bool false) rfl rfl ?_;simp only[ap]
     go_big_quiet_skip
     go_big_quiet_skip
     go_big_quiet_skip
     go_big_quiet_skip
     go_big_quiet_skip
     go_big_quiet_skip
     go_big_quiet_skip
     refine ve rfl rfl rfl ?_;simp only[ap];refine wpQuiet_nil ?_;intro W6 hC6;rw[HTT.out]at HD2;obtain⟨hbW6⟩:Nonempty (Below w.heap.size w W6):=⟨Below.trans hb3 (Below.mono hC6 hb3.size)⟩;have r1:=((hB3.below hC6 hB3.lt).cell 1);simp only[List.getElem?_cons_zero,List.getElem?_cons_succ]at r1;by_cases hlo:lo<=t
     ·have q1:decide (t<lo)=false:=decide_eq_false (by omega);have HDD:=hid (show bY (ps.drop (q+1)) (ks'.drop t)=bY ps ks by rw[HD2.out,decide_eq_true hlo];rfl);have hsl:=rF bK oK n c t (by omega) hcap;have HIN:=hid (HI.out.drop t c (by have:=HN.out;omega));generalize (if c=t then oK else oK+t)=oN at *
      clear hlo;go_wp2
      go_roundw
      case rel=>exact⟨q+1,oN,n-t,c-t,ks'.drop t,by omega,by go_num,rfl,by rw[List.length_drop,HN.out],by omega,by omega,HIN.out,HDD.out,hbW6⟩
      case measure=>simp[intOf];omega
     ·have q1:decide (t<lo)=true:=decide_eq_true (by omega);have HDD:=hid (show bY ps ks=false by rw[HD2.out,decide_eq_false hlo];rfl);clear hlo;go_wp2
      go_ret
      exact⟨aa HDD.out.symm,hbW6⟩
  ·obtain rfl:q=m:=by omega
   have hqz:¬(q:Int)<(q:Int):=by omega
   rw[HM.out,List.drop_length]at HROW;by_cases hz:n=0
   ·subst hz;have HE:=hid (show bY ps ks=true by rw[<- HROW.out];exact decide_eq_true HN.out.symm);go_wp2
    go_ret
    exact⟨aa HE.out.symm,hbw⟩
   ·have HE:=hid (show bY ps ks=false by rw[<- HROW.out];exact decide_eq_false (λh=>hz (HN.out.trans h)));have hz2:((n:Int)==0)=false:=by simp;exact hz
    go_wp2
    go_ret
    exact⟨aa HE.out.symm,hbw⟩
def di (w:World)(g:Nat)(ps:List Pt):Prop:=∃A m c,w.cell? ⟨g,0,none⟩=some (.slice A m c)/\Parts w A ps/\m=ps.length/\g<w.heap.size
theorem di.below {w w':World}{g:Nat}{ps:List Pt}(h:di w g ps)(hb:Below w.heap.size w w'):di w' g ps:=by
 obtain⟨A,m,c,h1,h2,h3,h4⟩:=h;exact⟨A,m,c,(hb.cell (p:=⟨g,0,none⟩) h4).trans h1,h2.below hb,h3,Nat.lt_of_lt_of_le h4 hb.size⟩
def JC (kd:Int):Nat:=
 if kd=2\/kd=3\/kd=4\/kd=5\/kd=7\/kd=8\/kd=9\/kd=16\/kd=17\/kd=18\/kd=19\/kd=22\/kd=23\/kd=24\/kd=25 then 209
 else if kd=13 then 211 else if kd=26 then 213 else if kd=27 then 214 else 206
def dW (kd:Int):Int:=if kd=2\/kd=4\/kd=5 then 1 else 0
def dX (kd:Int):Int:=if kd=2\/kd=3\/kd=4\/kd=5 then 4 else if kd=20 then 9223372036854775807 else if kd=21 then 1 else 0
theorem K8:Own 209:=⟨_,Tryz.func209,by kernel_rfl,by kernel_rfl⟩
theorem K9:Own 211:=⟨_,Tryz.func211,by kernel_rfl,by kernel_rfl⟩
theorem K_:Own 213:=⟨_,Tryz.func213,by kernel_rfl,by kernel_rfl⟩
theorem La:Own 214:=⟨_,Tryz.func214,by kernel_rfl,by kernel_rfl⟩
theorem Lb:Own 206:=⟨_,Tryz.func206,by kernel_rfl,by kernel_rfl⟩
theorem Gg (kd:Int):Own (JC kd):=by
 unfold JC;split
 ·exact K8
 split
 ·exact K9
 split
 ·exact K_
 split
 ·exact La
 ·exact Lb
theorem Bc (kd:Int)(s:ByteArray)(w:World)(hmax:s.size<=281474976710656):Calls Tryz.prog (JC kd) #[.string s] w (au (dG kd s.data.toList) w):=by
 unfold JC dG;split
 ·exact(gp s w hmax).mono λe w' h=>⟨h.1,by rw[<- h.2];exact Below.refl _ _⟩
 split
 ·exact nP s w hmax
 split
 ·exact vZ s w
 split
 ·exact uJ s w
 ·exact vY s w
theorem DZ (kd n:Int)(hn:n<=9223372036854775807):(decide (dW kd<=n)&&decide (n<=dX kd))=aX kd n:=by
 unfold dW dX aX;rw[Bool.eq_iff_iff];split<;>split<;>(try split)<;>(try split)<;>(try split)<;>simp<;>omega
def aY (kd:Int)(w:World)(e:Ending)(w':World):Prop:=
 ∃g,e=.returned (.tuple #[.agg #[.func (.func (JC kd)) #[] #[],.int .i64 (dW kd),.int .i64 (dX kd),.func (.func 250) #[] #[.pointer (some ⟨g,0,none⟩)]],.bool true])/\di w' g (partsOf kd)/\Below w.heap.size w w'
theorem jG (W:World)(b off:Nat)(F:Fn)(xs ys:Array Value)(h:(W.cell? ⟨b,off,none⟩).isSome=true)(hf:W.frozen? ⟨b,off,none⟩=false):(store ⟨b,off,none⟩ (.func F xs ys)).run Tryz.prog W=.ok () (W.setCell ⟨b,off,none⟩ (.func F xs ys)):=by
 obtain⟨u,hu⟩:=Option.isSome_iff_exists.1 h;rw[run_store _ _ _ _ _ rfl,hu];simp[hf]
theorem bV {w:World}{b:Nat}{ps:List Pt}(hb:b<w.heap.size)(h:∀j (hj:j<ps.length),∃F ys,w.cell? ⟨b,j*3,none⟩=some (.func (.func F) #[] ys)/\w.cell? ⟨b,j*3+1,none⟩=some (.int .i64 (ps[j].lo:Int)) /\
  w.cell? ⟨b,j*3+2,none⟩=some (.int .i64 (ps[j].hi:Int))/\u_ w F ys ps[j].f/\ps[j].hi<=9223372036854775807):Parts w (some ⟨b,0,none⟩) ps:=λ_=>⟨b,0,rfl,hb,λj hj=>by
 obtain⟨F,ys,h1,h2,h3,h4⟩:=h j hj
 rw[Nat.zero_add]
 exact⟨F,ys,h1,h2,h3,h4⟩⟩
theorem aR {W:World}{g b:Nat}{t:TypeId}{l l':List Value}(hR:Bx W g 129 l)(h:Bx W b t l')(ht:t≠129)(u0 u1 u2 u3:Value):Bx ((((W.setCell ⟨g,0,none⟩ u0).setCell ⟨g,1,none⟩ u1).setCell ⟨g,2,none⟩ u2).setCell ⟨g,3,none⟩ u3) b t l':=by
 have hn:b≠g:=λe=>by
  subst e;have h2:=h.symm.trans hR;simp only[Option.some.injEq,Obj.cells.injEq]at h2;exact ht h2.2.1
 exact(((h.far (p:=⟨g,0,none⟩) hn u0).far (p:=⟨g,1,none⟩) hn u1).far (p:=⟨g,2,none⟩) hn u2).far (p:=⟨g,3,none⟩) hn u3
def b_ (w:World)(g4 g5:Nat)(W:World):Prop:=∃gb,Bx W w.heap.size 129 [.nilFunc,.int .i64 0,.int .i64 0,.nilFunc]/\Bx W g4 168 [.func (.func 204) #[] #[],.int .i64 1,.int .i64 1] /\
 Bx W g5 168 [.func (.func 249) #[] #[.pointer (some ⟨gb,0,none⟩)],.int .i64 1,.int .i64 1]/\Bx W gb 3 [.int .i64 6]/\Below w.heap.size w W
end
end Go.Proofs.YteecfjhjllajlaaGreatDoor.Tr
