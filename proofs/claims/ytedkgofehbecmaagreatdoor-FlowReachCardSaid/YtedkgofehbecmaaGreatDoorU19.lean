/- PROVED here: parts N19 of the claim. No condition but those in each theorem's own head. -/
import Derived.Test.YtedkgofehbecmaaGreatDoorU04
namespace Go.Proofs.YtedkgofehbecmaaGreatDoor.Tr
open Go.Lib (hid)
open Go Go.RowKit
def VPost (v:Value)(w:World)(e:Ending)(w':World):Prop:=e = .returned v/\Below w.heap.size w w'
theorem is_any (k:Int)(w:World):Calls Tryz.prog 233 #[.int .i64 k] w (λe w'=>∃g,e = .returned (.func (.func 265) #[] #[.pointer (some ⟨g,0,none⟩)])/\Bx w' g 3 [.int .i64 k]/\w.heap.size<=g/\Below w.heap.size w w'):=by
 go_enter Tryz.func233,Tryz.ntmps233
 go_wp2
 go_ret
 exact⟨w.heap.size,rfl,Bx.new w 3 _,Nat.le_refl _,heap1 _ _⟩
set_option maxRecDepth 100000 in
set_option maxHeartbeats 1500000 in
theorem one_any (F:Fn)(xs ys:Array Value)(w:World):Calls Tryz.prog 231 #[.func F xs ys] w (VPost (.agg #[.func F xs ys,.int .i64 1,.int .i64 1]) w):=by
 obtain⟨W,hW⟩:∃W,w.alloc (.cells #[.nilFunc,.int .i64 0,.int .i64 0] 226)=W:=⟨_,rfl⟩
 have hb:Below w.heap.size w W:=by rw[<- hW];exact heap1 _ _
 have hB:Bx W w.heap.size 226 [.nilFunc,.int .i64 0,.int .i64 0]:=by rw[<- hW];exact Bx.new w 226 _
 have hE:=((hB.set_ 0 (.func F xs ys)).set_ 1 (.int .i64 1)).set_ 2 (.int .i64 1)
 have hb2:=((hb.setCell (p:=⟨w.heap.size,0,none⟩) (Nat.le_refl _) (.func F xs ys)).setCell (p:=⟨w.heap.size,1,none⟩) (Nat.le_refl _) (.int .i64 1)).setCell (p:=⟨w.heap.size,2,none⟩) (Nat.le_refl _) (.int .i64 1)
 have HH:=hid (And.intro hE hb2)
 have c0:=hB.cell 0
 have c1:=hB.cell 1
 have c2:=hB.cell 2
 have f0:=hB.frozen 0
 have f1:=hB.frozen 1
 have f2:=hB.frozen 2
 simp only[List.getElem?_cons_zero,List.getElem?_cons_succ]at c0 c1 c2
 clear hE hb2 hb hB
 have hst:(store ⟨w.heap.size,0,none⟩ (.func F xs ys)).run Tryz.prog W = .ok () (W.setCell ⟨w.heap.size,0,none⟩ (.func F xs ys)):=by
  rw[run_store _ _ _ _ _ rfl,c0];simp[f0]
 go_enter Tryz.func231,Tryz.ntmps231
 go_wp2
 obtain⟨hE,hb2⟩:=HH.out
 have r0:=hE.cell 0
 have r1:=hE.cell 1
 have r2:=hE.cell 2
 simp only[List.set_cons_zero,List.set_cons_succ,List.getElem?_cons_zero,List.getElem?_cons_succ]at r0 r1 r2
 generalize ((W.setCell ⟨w.heap.size,0,none⟩ (.func F xs ys)).setCell ⟨w.heap.size,1,none⟩ (.int .i64 1)).setCell ⟨w.heap.size,2,none⟩ (.int .i64 1)=W3 at *
 exact bodyPost_ret (v :=.agg #[.func F xs ys,.int .i64 1,.int .i64 1]) (by simp[results,Tryz.f231,go_sem,r0,r1,r2]) rfl ⟨rfl,hb2⟩
set_option maxRecDepth 100000 in
set_option maxHeartbeats 1500000 in
theorem many_any (F:Fn)(xs ys:Array Value)(w:World):Calls Tryz.prog 236 #[.func F xs ys] w (VPost (.agg #[.func F xs ys,.int .i64 0,.int .i64 9223372036854775807]) w):=by
 obtain⟨W,hW⟩:∃W,w.alloc (.cells #[.nilFunc,.int .i64 0,.int .i64 0] 226)=W:=⟨_,rfl⟩
 have hb:Below w.heap.size w W:=by rw[<- hW];exact heap1 _ _
 have hB:Bx W w.heap.size 226 [.nilFunc,.int .i64 0,.int .i64 0]:=by rw[<- hW];exact Bx.new w 226 _
 have hE:=((hB.set_ 0 (.func F xs ys)).set_ 1 (.int .i64 0)).set_ 2 (.int .i64 9223372036854775807)
 have hb2:=((hb.setCell (p:=⟨w.heap.size,0,none⟩) (Nat.le_refl _) (.func F xs ys)).setCell (p:=⟨w.heap.size,1,none⟩) (Nat.le_refl _) (.int .i64 0)).setCell (p:=⟨w.heap.size,2,none⟩) (Nat.le_refl _) (.int .i64 9223372036854775807)
 have HH:=hid (And.intro hE hb2)
 have c0:=hB.cell 0
 have c1:=hB.cell 1
 have c2:=hB.cell 2
 have f0:=hB.frozen 0
 have f1:=hB.frozen 1
 have f2:=hB.frozen 2
 simp only[List.getElem?_cons_zero,List.getElem?_cons_succ]at c0 c1 c2
 clear hE hb2 hb hB
 have hst:(store ⟨w.heap.size,0,none⟩ (.func F xs ys)).run Tryz.prog W = .ok () (W.setCell ⟨w.heap.size,0,none⟩ (.func F xs ys)):=by
  rw[run_store _ _ _ _ _ rfl,c0];simp[f0]
 go_enter Tryz.func236,Tryz.ntmps236
 go_wp2
 obtain⟨hE,hb2⟩:=HH.out
 have r0:=hE.cell 0
 have r1:=hE.cell 1
 have r2:=hE.cell 2
 simp only[List.set_cons_zero,List.set_cons_succ,List.getElem?_cons_zero,List.getElem?_cons_succ]at r0 r1 r2
 generalize ((W.setCell ⟨w.heap.size,0,none⟩ (.func F xs ys)).setCell ⟨w.heap.size,1,none⟩ (.int .i64 0)).setCell ⟨w.heap.size,2,none⟩ (.int .i64 9223372036854775807)=W3 at *
 exact bodyPost_ret (v :=.agg #[.func F xs ys,.int .i64 0,.int .i64 9223372036854775807]) (by simp[results,Tryz.f236,go_sem,r0,r1,r2]) rfl ⟨rfl,hb2⟩
set_option maxRecDepth 100000 in
set_option maxHeartbeats 1500000 in
theorem maybe_any (F:Fn)(xs ys:Array Value)(w:World):Calls Tryz.prog 239 #[.func F xs ys] w (VPost (.agg #[.func F xs ys,.int .i64 0,.int .i64 1]) w):=by
 obtain⟨W,hW⟩:∃W,w.alloc (.cells #[.nilFunc,.int .i64 0,.int .i64 0] 226)=W:=⟨_,rfl⟩
 have hb:Below w.heap.size w W:=by rw[<- hW];exact heap1 _ _
 have hB:Bx W w.heap.size 226 [.nilFunc,.int .i64 0,.int .i64 0]:=by rw[<- hW];exact Bx.new w 226 _
 have hE:=((hB.set_ 0 (.func F xs ys)).set_ 1 (.int .i64 0)).set_ 2 (.int .i64 1)
 have hb2:=((hb.setCell (p:=⟨w.heap.size,0,none⟩) (Nat.le_refl _) (.func F xs ys)).setCell (p:=⟨w.heap.size,1,none⟩) (Nat.le_refl _) (.int .i64 0)).setCell (p:=⟨w.heap.size,2,none⟩) (Nat.le_refl _) (.int .i64 1)
 have HH:=hid (And.intro hE hb2)
 have c0:=hB.cell 0
 have c1:=hB.cell 1
 have c2:=hB.cell 2
 have f0:=hB.frozen 0
 have f1:=hB.frozen 1
 have f2:=hB.frozen 2
 simp only[List.getElem?_cons_zero,List.getElem?_cons_succ]at c0 c1 c2
 clear hE hb2 hb hB
 have hst:(store ⟨w.heap.size,0,none⟩ (.func F xs ys)).run Tryz.prog W = .ok () (W.setCell ⟨w.heap.size,0,none⟩ (.func F xs ys)):=by
  rw[run_store _ _ _ _ _ rfl,c0];simp[f0]
 go_enter Tryz.func239,Tryz.ntmps239
 go_wp2
 obtain⟨hE,hb2⟩:=HH.out
 have r0:=hE.cell 0
 have r1:=hE.cell 1
 have r2:=hE.cell 2
 simp only[List.set_cons_zero,List.set_cons_succ,List.getElem?_cons_zero,List.getElem?_cons_succ]at r0 r1 r2
 generalize ((W.setCell ⟨w.heap.size,0,none⟩ (.func F xs ys)).setCell ⟨w.heap.size,1,none⟩ (.int .i64 0)).setCell ⟨w.heap.size,2,none⟩ (.int .i64 1)=W3 at *
 exact bodyPost_ret (v :=.agg #[.func F xs ys,.int .i64 0,.int .i64 1]) (by simp[results,Tryz.f239,go_sem,r0,r1,r2]) rfl ⟨rfl,hb2⟩
theorem row_any (A:Option Addr)(n c:Nat)(w:World):Calls Tryz.prog 235 #[.slice A n c] w (λe w'=>∃g,e = .returned (.func (.func 266) #[] #[.pointer (some ⟨g,0,none⟩)])/\Bx w' g 237 [.slice A n c]/\w.heap.size<=g/\Below w.heap.size w w'):=by
 go_enter Tryz.func235,Tryz.ntmps235
 go_wp2
 go_ret
 exact⟨w.heap.size,rfl,Bx.new w 237 _,Nat.le_refl _,heap1 _ _⟩
structure Pt where
 f:Int->Bool
 lo:Nat
 hi:Nat
def runF (f:Int->Bool):List Int->Nat
 | []=>0
 |x :: l=>if f x=true then runF f l+1 else 0
theorem runF_le (f:Int->Bool):∀l,runF f l<=l.length
 | []=>Nat.le_refl _
 |x :: l=>by
  unfold runF
  have:=runF_le f l
  split
  ·rw[List.length_cons];omega
  ·omega
theorem runF_at (f:Int->Bool):∀(l:List Int) (i:Nat) (h:i<l.length),i<=runF f l->(i<runF f l↔f l[i]=true)
 |x :: l,0,_,_=>by
  show 0<runF f (x :: l)↔f x=true
  unfold runF
  split<;>simp_all
 |x :: l,i+1,h,hi=>by
  unfold runF at hi |-
  by_cases e:f x=true
  ·rw[if_pos e]at hi |-
   have:=runF_at f l i (by simpa using h) (by omega)
   rw[List.getElem_cons_succ,<- this]
   omega
  ·rw[if_neg e]at hi;omega
def tk (p:Pt)(l:List Int):Nat:=min p.hi (runF p.f l)
def rowB:List Pt->List Int->Bool
 | [],l=>decide (l.length=0)
 |p :: ps,l=>decide (p.lo<=tk p l)&&rowB ps (l.drop (tk p l))
def pOne (f:Int->Bool):Pt:=⟨f,1,1⟩
def pMany (f:Int->Bool):Pt:=⟨f,0,9223372036854775807⟩
def pMaybe (f:Int->Bool):Pt:=⟨f,0,1⟩
def isB (m:Int)(k:Int):Bool:=k==m
theorem row_one_nil (f:Int->Bool)(ps:List Pt):rowB (pOne f :: ps) []=false:=by
 show(decide (1<=min 1 0)&&_)=false
 rfl
theorem row_one_cons (f:Int->Bool)(ps:List Pt)(x:Int)(l:List Int):rowB (pOne f :: ps) (x :: l)=(f x&&rowB ps l):=by
 by_cases e:f x=true
 ·have h:tk (pOne f) (x :: l)=1:=by
   show min 1 (runF f (x :: l))=1
   unfold runF;rw[if_pos e];omega
  show(decide (1<=tk (pOne f) (x :: l))&&rowB ps ((x :: l).drop (tk (pOne f) (x :: l))))=_
  rw[h,e];rfl
 ·have h:tk (pOne f) (x :: l)=0:=by
   show min 1 (runF f (x :: l))=0
   unfold runF;rw[if_neg e];omega
  show(decide (1<=tk (pOne f) (x :: l))&&rowB ps ((x :: l).drop (tk (pOne f) (x :: l))))=_
  rw[h,Bool.eq_false_iff.2 e];rfl
theorem row_many (f:Int->Bool)(ps:List Pt)(l:List Int)(hl:l.length<=4000):rowB (pMany f :: ps) l=rowB ps (l.drop (runF f l)):=by
 have h:tk (pMany f) l=runF f l:=by
  show min 9223372036854775807 (runF f l)=runF f l
  have:=runF_le f l
  omega
 show(decide (0<=tk (pMany f) l)&&rowB ps (l.drop (tk (pMany f) l)))=_
 rw[h,decide_eq_true (Nat.zero_le _)];rfl
theorem runF_all (f:Int->Bool):∀l:List Int,decide ((l.drop (runF f l)).length=0)=l.all f
 | []=>rfl
 |x :: l=>by
  have h:=runF_all f l
  rw[List.length_drop]at h
  rw[List.length_drop,List.all_cons]
  unfold runF
  by_cases e:f x=true
  ·rw[if_pos e,e,Bool.true_and,<- h,List.length_cons,show l.length+1-(runF f l+1)=l.length-runF f l by omega]
  ·rw[if_neg e,Bool.eq_false_iff.2 e,List.length_cons];simp
theorem row_many_last (f:Int->Bool)(l:List Int)(hl:l.length<=4000):rowB [pMany f] l=l.all f:=by
 rw[row_many f [] l hl];exact runF_all f l
theorem row_maybe (f:Int->Bool)(l:List Int):rowB [pMaybe f] l=(decide (l.length<=1)&&l.all f):=by
 match l with
 | []=>rfl
 | [x]=>
  by_cases e:f x=true
  ·have h:tk (pMaybe f) [x]=1:=by
    show min 1 (runF f [x])=1
    unfold runF;rw[if_pos e];omega
   show(decide (0<=tk (pMaybe f) [x])&&rowB [] ([x].drop (tk (pMaybe f) [x])))=_
   rw[h];simp[rowB,e]
  ·have h:tk (pMaybe f) [x]=0:=by
    show min 1 (runF f [x])=0
    unfold runF;rw[if_neg e];omega
   show(decide (0<=tk (pMaybe f) [x])&&rowB [] ([x].drop (tk (pMaybe f) [x])))=_
   rw[h];simp[rowB,e]
 |x :: y :: l=>
  have h:tk (pMaybe f) (x :: y :: l)<=1:=Nat.min_le_left _ _
  show(decide (0<=tk (pMaybe f) (x :: y :: l))&&rowB [] ((x :: y :: l).drop (tk (pMaybe f) (x :: y :: l))))=_
  have h2:((x :: y :: l).drop (tk (pMaybe f) (x :: y :: l))).length≠0:=by rw[List.length_drop];simp only[List.length_cons];omega
  have h3:rowB [] ((x :: y :: l).drop (tk (pMaybe f) (x :: y :: l)))=false:=decide_eq_false h2
  rw[h3];simp
theorem run1_F (a:Int):∀l,run1 a l=runF (isB a) l
 | []=>rfl
 |x :: l=>by
  unfold run1 runF
  rw[run1_F a l]
  by_cases e:x=a
  ·rw[if_pos e,if_pos (by simp[isB,e])]
  ·rw[if_neg e,if_neg (by simp[isB,e])]
theorem ris_0 (l:List Int)(a b:Int)(hl:l.length<=4000):rowB [pMany (isB a),pMany (isB b)] l=risB l a b 0:=by
 rw[row_many _ _ _ hl,row_many _ _ _ (by rw[List.length_drop];omega)]
 unfold risB ri2 ri1
 rw[if_pos rfl,run1_F,run1_F]
 show decide (List.length _=0)=_
 rw[List.length_drop,List.length_drop]
 have h1:=runF_le (isB a) l
 have h2:=runF_le (isB b) (l.drop (runF (isB a) l))
 rw[List.length_drop]at h2
 rw[decide_eq_decide]
 omega
theorem ris_c (l:List Int)(a b c:Int)(hl:l.length<=4000)(hc:c≠0):rowB [pMany (isB a),pMany (isB b),pOne (isB c)] l=risB l a b c:=by
 rw[row_many _ _ _ hl,row_many _ _ _ (by rw[List.length_drop];omega)]
 unfold risB ri2 ri1
 rw[if_neg hc,run1_F,run1_F]
 have h1:=runF_le (isB a) l
 have h2:=runF_le (isB b) (l.drop (runF (isB a) l))
 rw[List.length_drop]at h2
 rw[List.drop_drop]
 generalize runF (isB b) (l.drop (runF (isB a) l))=r2 at *
 generalize runF (isB a) l=r1 at *
 have hl2:l=l.take (r1+r2)++l.drop (r1+r2):=(List.take_append_drop _ _).symm
 have hlen:(l.take (r1+r2)).length=r1+r2:=by rw[List.length_take];omega
 generalize hd:l.drop (r1+r2)=d at *
 generalize l.take (r1+r2)=u at *
 subst hl2
 rw[List.length_append,hlen]
 match d with
 | []=>rw[row_one_nil];simp
 | [x]=>
  rw[row_one_cons]
  simp only[List.length_cons,List.length_nil,List.getD_eq_getElem?_getD]
  rw[List.getElem?_append_right (by omega),hlen]
  simp[rowB,isB]
  rw[Bool.eq_iff_iff];simp
 |x :: y :: d=>
  rw[row_one_cons]
  have e:rowB [] (y :: d)=false:=by simp[rowB]
  rw[e];simp
def partsOf (kd:Int):List Pt:=
 if kd=1 then [pMany (isB 2),pMany (isB 3)] else if kd=3 then [pMany (isB 4),pMany (isB 5),pOne (isB 6)] else if kd=6 then [pMany stmB]
 else if kd=7\/kd=15\/kd=17\/kd=23\/kd=26 then [pOne expB]
 else if kd=8\/kd=27 then [pOne expB,pOne expB]
 else if kd=9 then [pOne (isB 18)]
 else if kd=10 then [pOne (isB 18),pOne expB]
 else if kd=11 then [pOne expB,pOne (isB 6),pOne (isB 6)]
 else if kd=12 then [pOne expB,pOne (isB 6)]
 else if kd=13 then [pOne (isB 19),pMany expB]
 else if kd=14 then [pMaybe expB]
 else if kd=16 then [pOne (isB 6),pOne (isB 6)]
 else []
theorem row1 (f:Int->Bool)(l:List Int):rowB [pOne f] l=(decide (l.length=1)&&l.all f):=by
 match l with
 | []=>rw[row_one_nil];rfl
 | [x]=>rw[row_one_cons];simp[rowB]
 |x :: y :: l=>rw[row_one_cons];simp[rowB]
theorem row2 (f g:Int->Bool)(l:List Int):rowB [pOne f,pOne g] l=(decide (l.length=2)&&f (l.getD 0 0)&&g (l.getD 1 0)):=by
 match l with
 | []=>rw[row_one_nil];rfl
 | [x]=>rw[row_one_cons,row_one_nil];simp
 | [x,y]=>rw[row_one_cons,row_one_cons];simp[rowB]
 |x :: y :: z :: l=>rw[row_one_cons,row_one_cons];simp[rowB]
theorem row3 (f g h:Int->Bool)(l:List Int):rowB [pOne f,pOne g,pOne h] l=(decide (l.length=3)&&f (l.getD 0 0)&&g (l.getD 1 0)&&h (l.getD 2 0)):=by
 match l with
 | []=>rw[row_one_nil];rfl
 | [x]=>rw[row_one_cons,row_one_nil];simp
 | [x,y]=>rw[row_one_cons,row_one_cons,row_one_nil];simp
 | [x,y,z]=>rw[row_one_cons,row_one_cons,row_one_cons];simp[rowB,Bool.and_assoc]
 |x :: y :: z :: u :: l=>rw[row_one_cons,row_one_cons,row_one_cons];simp[rowB]
theorem isB_dec (m k:Int):isB m k=decide (k=m):=by unfold isB;rw[Bool.eq_iff_iff];simp
theorem kr2 (l:List Int):rowB [pOne expB,pOne expB] l=(decide (l.length=2)&&allB l):=by
 rw[row2]
 match l with
 | []=>rfl
 | [x]=>simp
 | [x,y]=>simp[allB]
 |x :: y :: z :: l=>simp
theorem kr9 (l:List Int):rowB [pOne (isB 18)] l=(decide (l.length=1)&&decide (l.getD 0 0=18)):=by
 rw[row1]
 match l with
 | []=>rfl
 | [x]=>simp[isB_dec]
 |x :: y :: l=>simp
theorem kr13 (l:List Int)(hl:l.length<=4000):rowB [pOne (isB 19),pMany expB] l=(decide (1<=l.length)&&decide (l.getD 0 0=19)&&allB (l.drop 1)):=by
 match l with
 | []=>rw[row_one_nil];rfl
 |x :: l=>
  rw[row_one_cons,row_many_last _ _ (by simp at hl;omega),isB_dec]
  simp[allB]
theorem kid_row (kd:Int)(l:List Int)(hl:l.length<=4000):rowB (partsOf kd) l=kidB kd l:=by
 unfold partsOf kidB
 repeat rw[apply_ite (λp=>rowB p l)]
 rw[ris_0 l 2 3 hl,ris_c l 4 5 6 hl (by decide),row_many_last _ _ hl,row1,kr2,kr9,row2,row3,row2,kr13 l hl,row_maybe,row2]
 simp only[isB_dec]
 rfl
theorem isf_s (k m:Int)(g:Nat)(w:World)(h:w.cell? ⟨g,0,none⟩=some (.int .i64 m)):Calls Tryz.prog 265 #[.int .i64 k,.pointer (some ⟨g,0,none⟩)] w λe w'=>e = .returned (.bool (isB m k))/\w=w':=by
 by_cases e:k=m
 ·have HE:=hid (show isB m k=true by simp[isB,e])
  subst e
  go_enter Tryz.func265,Tryz.ntmps265
  go_wp2
  go_ret
  exact⟨ret_bool HE.out.symm,rfl⟩
 ·have HE:=hid (show isB m k=false by simp[isB,e])
  have q:(k==m)=false:=by simp[e]
  clear e
  go_enter Tryz.func265,Tryz.ntmps265
  go_wp2
  go_ret
  exact⟨ret_bool HE.out.symm,rfl⟩
theorem isSt_s (k:Int)(w:World):Calls Tryz.prog 237 #[.int .i64 k] w λe w'=>e = .returned (.bool (stmB k))/\w=w':=by
 by_cases h1:7<=k
 ·by_cases h2:k<=17
  ·have HE:=hid (show stmB k=true by unfold stmB;simp[h1,h2])
   have q1:decide (7<=k)=true:=decide_eq_true h1
   have q2:decide (k<=17)=true:=decide_eq_true h2
   go_enter Tryz.func237,Tryz.ntmps237
   go_wp2
   go_ret
   exact⟨ret_bool HE.out.symm,rfl⟩
  ·have HE:=hid (show stmB k=false by unfold stmB;simp[h1,h2])
   have q1:decide (7<=k)=true:=decide_eq_true h1
   have q2:decide (k<=17)=false:=decide_eq_false h2
   go_enter Tryz.func237,Tryz.ntmps237
   go_wp2
   go_ret
   exact⟨ret_bool HE.out.symm,rfl⟩
 ·have HE:=hid (show stmB k=false by unfold stmB;simp[h1])
  have q1:decide (7<=k)=false:=decide_eq_false h1
  go_enter Tryz.func237,Tryz.ntmps237
  go_wp2
  go_ret
  exact⟨ret_bool HE.out.symm,rfl⟩
theorem isEx_s (k:Int)(w:World):Calls Tryz.prog 232 #[.int .i64 k] w λe w'=>e = .returned (.bool (expB k))/\w=w':=by
 by_cases h1:20<=k
 ·by_cases h2:k<=27
  ·have HE:=hid (show expB k=true by unfold expB;simp[h1,h2])
   have q1:decide (20<=k)=true:=decide_eq_true h1
   have q2:decide (k<=27)=true:=decide_eq_true h2
   go_enter Tryz.func232,Tryz.ntmps232
   go_wp2
   go_ret
   exact⟨ret_bool HE.out.symm,rfl⟩
  ·have HE:=hid (show expB k=false by unfold expB;simp[h1,h2])
   have q1:decide (20<=k)=true:=decide_eq_true h1
   have q2:decide (k<=27)=false:=decide_eq_false h2
   go_enter Tryz.func232,Tryz.ntmps232
   go_wp2
   go_ret
   exact⟨ret_bool HE.out.symm,rfl⟩
 ·have HE:=hid (show expB k=false by unfold expB;simp[h1])
  have q1:decide (20<=k)=false:=decide_eq_false h1
  go_enter Tryz.func232,Tryz.ntmps232
  go_wp2
  go_ret
  exact⟨ret_bool HE.out.symm,rfl⟩
def FitV (w:World)(F:Nat)(ys:Array Value)(f:Int->Bool):Prop:=
 (∃g m,F=265/\ys = #[.pointer (some ⟨g,0,none⟩)]/\w.cell? ⟨g,0,none⟩=some (.int .i64 m)/\g<w.heap.size/\f=isB m)\/(F=232/\ys = #[]/\f=expB)\/(F=237/\ys = #[]/\f=stmB)
theorem FitV.below {w w':World}{F:Nat}{ys:Array Value}{f:Int->Bool}(h:FitV w F ys f)(hb:Below w.heap.size w w'):FitV w' F ys f:=by
 rcases h with⟨g,m,h1,h2,h3,h4,h5⟩ |h |h
 ·exact .inl ⟨g,m,h1,h2,(hb.cell (p:=⟨g,0,none⟩) h4).trans h3,Nat.lt_of_lt_of_le h4 hb.size,h5⟩
 ·exact .inr (.inl h)
 ·exact .inr (.inr h)
theorem own55:Own 265:=⟨_,Tryz.func265,by kernel_rfl,by kernel_rfl⟩
theorem own38:Own 232:=⟨_,Tryz.func232,by kernel_rfl,by kernel_rfl⟩
theorem own44:Own 237:=⟨_,Tryz.func237,by kernel_rfl,by kernel_rfl⟩
theorem FitV.own {w:World}{F:Nat}{ys:Array Value}{f:Int->Bool}(h:FitV w F ys f):Own F:=by
 rcases h with⟨g,m,rfl,_⟩ |⟨rfl,_⟩ |⟨rfl,_⟩
 ·exact own55
 ·exact own38
 ·exact own44
theorem FitV.calls {w:World}{F:Nat}{ys:Array Value}{f:Int->Bool}(h:FitV w F ys f)(k:Int):Calls Tryz.prog F (#[.int .i64 k]++ys) w λe w'=>e = .returned (.bool (f k))/\w=w':=by
 rcases h with⟨g,m,rfl,rfl,h3,_,rfl⟩ |⟨rfl,rfl,rfl⟩ |⟨rfl,rfl,rfl⟩
 ·exact isf_s k m g w h3
 ·exact isEx_s k w
 ·exact isSt_s k w
def Parts (w:World)(A:Option Addr)(ps:List Pt):Prop:=
 0<ps.length->∃b off,A=some ⟨b,off,none⟩/\b<w.heap.size/\∀j (hj:j<ps.length),∃F ys,w.cell? ⟨b,off+j*3,none⟩=some (.func (.func F) #[] ys)/\w.cell? ⟨b,off+j*3+1,none⟩=some (.int .i64 (ps[j].lo:Int)) /\
  w.cell? ⟨b,off+j*3+2,none⟩=some (.int .i64 (ps[j].hi:Int))/\FitV w F ys ps[j].f/\ps[j].hi<=9223372036854775807
theorem Parts.below {w w':World}{A:Option Addr}{ps:List Pt}(h:Parts w A ps)(hb:Below w.heap.size w w'):Parts w' A ps:=λh0=>by
 obtain⟨b,off,e,hl,hc⟩:=h h0
 refine⟨b,off,e,Nat.lt_of_lt_of_le hl hb.size,λj hj =>?_⟩
 obtain⟨F,ys,c0,c1,c2,hF,hi⟩:=hc j hj
 exact⟨F,ys,(hb.cell (p:=⟨b,off+j*3,none⟩) hl).trans c0,(hb.cell (p:=⟨b,off+j*3+1,none⟩) hl).trans c1,(hb.cell (p:=⟨b,off+j*3+2,none⟩) hl).trans c2,hF.below hb,hi⟩
theorem slice22k (b off n c k:Nat)(h1:k<=n)(h2:n<=c)(w:World):(Instr.slice 28 (.slice (some ⟨b,off,none⟩) n c) (some (.int .i64 (k:Int))) none none).run Tryz.prog w = .ok (.slice (some ⟨b,if c=k then off else off+k,none⟩) (n-k) (c-k)) w:=by
 by_cases h3:c=k
 ·obtain rfl:n=k:=by omega
  subst h3
  simp[go_sem,Tryz.underlying28]
 ·simp[go_sem,Tryz.underlying28]
  rw[if_pos (by omega),if_neg (by omega),if_neg h3]
theorem Ints.drop {w:World}{b off:Nat}{l:List Int}(h:Ints w (some ⟨b,off,none⟩) l)(k c:Nat)(hc:l.length<=c):Ints w (some ⟨b,if c=k then off else off+k,none⟩) (l.drop k):=λh0=>by
 rw[List.length_drop]at h0
 obtain⟨b',off',e,hl,hcc⟩:=h (by omega)
 cases e
 rw[if_neg (by omega)]
 refine⟨b,off+k,rfl,hl,λj hj =>?_⟩
 rw[List.length_drop]at hj
 have:=hcc (k+j) (by omega)
 rw[List.getElem_drop,Nat.add_assoc]
 exact this
section
variable {ops:Array Oper} {C:World->Prop} {Q:Act->Prop} {rest:List Oper} {d:Option Tmp} {ty:TypeId} {p:String} {af:Array Edge} {gd:Option (Nat × Bool)} {a:Act}
theorem q_pickN {c x y:Operand}{v:Value}(hw:Region.wanted ⟨d,.pick c x y,ty,p,af,gd⟩ (yielded ops a.tmps)=true)(hc:a.eval c = .bool false)(hx:a.eval y=v)
  (h:wpQuiet Tryz.prog ops C Q rest (a.put d v)):wpQuiet Tryz.prog ops C Q (⟨d,.pick c x y,ty,p,af,gd⟩ :: rest) a:=
 q_op hw (λw _=>by unfold Oper.quietAt execOp;simp[hc,hx,asBool,Oper.quietUpon]) h
theorem q_lssI {x y:Operand}{u v:Int}{b:Bool}(hw:Region.wanted ⟨d,.binOp .lss 3 x y 3,ty,p,af,gd⟩ (yielded ops a.tmps)=true)(hx:a.eval x = .int .i64 u)(hy:a.eval y = .int .i64 v)(hb:decide (u<v)=b)
  (h:wpQuiet Tryz.prog ops C Q rest (a.put d (.bool b))):wpQuiet Tryz.prog ops C Q (⟨d,.binOp .lss 3 x y 3,ty,p,af,gd⟩ :: rest) a:=
 q_bin hw hx hy (λw=>by simp[go_sem]) (λw=>by simp[go_sem,hb]) h
theorem q_callv {F:Nat}{z:Operand}{xs:Array Operand}{ts:Array TypeId}{args ys:Array Value}{v:Value}(hF:Own F)(hw:Region.wanted ⟨d,.call { callee :=.value z,args:=xs,argTypes:=ts },ty,p,af,gd⟩ (yielded ops a.tmps)=true)
  (hz:a.eval z = .func (.func F) #[] ys) (ha':(xs.toList.map a.eval).toArray=args) (hc:∀w,C w->Calls Tryz.prog F (args++ys) w λe w'=>e = .returned v/\C w')
  (h:wpQuiet Tryz.prog ops C Q rest (a.put d v)):wpQuiet Tryz.prog ops C Q (⟨d,.call { callee :=.value z,args:=xs,argTypes:=ts },ty,p,af,gd⟩ :: rest) a:=
 q_op hw (λw hC=>by
  unfold Oper.quietAt execOp
  have ha:xs.map a.eval=args:=by rw[<- ha'];exact Array.ext' (by rw[Array.toList_map])
  simp only[resolve,hz,ha,Deferred.ofValue,invoke,Sem.run_bind,Sem.run_pure,Result.andThen_ok]
  have e2:(#[]++args:Array Value)++ys=args++ys:=by simp
  rw[e2,run_own hF]
  exact⟨rfl,hc w hC⟩) h
end
theorem q_region' {id:Nat}{Q:Exit->Act->World->Prop}{a:Act}(w0:World){w:World}{l:List Oper}(hB:Region.lexB .any l.toArray=true)(hw:Cl w0 w)
  (h:wpQuiet Tryz.prog l.toArray (Cl w0) (λa'=>∀w',Cl w0 w'->Q .normal a' w') l a):(Code.region id l.toArray true).wp Tryz.prog Q a w:=
 wp_region_quiet (C:=Cl w0) (by kernel_rfl) hB ⟨hw.os,hw.tape,hw.output,hw.size,hw.block⟩ (by simpa using h)
theorem run_field58_0 (b:Nat)(w:World):(Instr.fieldAt 226 (.pointer (some ⟨b,0,none⟩)) 0).run Tryz.prog w = .ok (.pointer (some ⟨b,0,none⟩)) w:=by kernel_rfl
theorem run_field58_2 (b:Nat)(w:World):(Instr.fieldAt 226 (.pointer (some ⟨b,0,none⟩)) 2).run Tryz.prog w = .ok (.pointer (some ⟨b,2,none⟩)) w:=by kernel_rfl
theorem run_load56 {w:World}{b off:Nat}{F:Nat}{ys:Array Value}(h:w.cell? ⟨b,off,none⟩=some (.func (.func F) #[] ys)):(Instr.loadAt 78 (.pointer (some ⟨b,off,none⟩))).run Tryz.prog w = .ok (.func (.func F) #[] ys) w:=by
 simp[go_sem,h]
set_option maxRecDepth 100000 in
set_option maxHeartbeats 1500000 in
theorem rowf_any (bK oK0 n0 c0:Nat)(ks:List Int)(g:Nat)(A:Option Addr)(m cc:Nat)(ps:List Pt)(w:World)(hI:Ints w (some ⟨bK,oK0,none⟩) ks)(hn:n0=ks.length)(hl:n0<=4000)(hcap:n0<=c0)(hg:w.cell? ⟨g,0,none⟩=some (.slice A m cc))(hP:Parts w A ps)(hm:m=ps.length)(hml:m<=10):Calls Tryz.prog 266 #[.slice (some ⟨bK,oK0,none⟩) n0 c0,.pointer (some ⟨g,0,none⟩)] w (BPost (rowB ps ks) w):=by
 have HI:=hid hI
 have HP:=hid hP
 have HM:=hid hm
 have HN:=hid hn
 clear hI hP hm hn
 go_enter Tryz.func266,Tryz.ntmps266
 go_wp2
 go_loopw [0,9] (λkv i wr=>∃(q oK n c:Nat) (ks':List Int),q<=m/\i = .int .i64 (q:Int)/\kv = .slice (some ⟨bK,oK,none⟩) n c/\n=ks'.length/\n<=c/\n<=4000/\Ints w (some ⟨bK,oK,none⟩) ks'/\rowB (ps.drop q) ks'=rowB ps ks/\Below w.heap.size w wr) (λ_ i _=>m-(intOf i).toNat)
 case atStart=>exact⟨0,oK0,n0,c0,ks,Nat.zero_le _,rfl,rfl,HN.out,hcap,hl,HI.out,rfl,Below.refl _ _⟩
 case round=>
  clear HI HN hcap hl
  obtain⟨q,oK,n,c,ks',hq,rfl,rfl,hn,hcap,hl,hI,hrow,hbw⟩:=hrel
  have HN:=hid hn
  have HI:=hid hI
  have HROW:=hid hrow
  clear hn hI hrow
  by_cases hqm:q<m
  ·have hqz:(q:Int)<(m:Int):=by omega
   have hql:q<ps.length:=by rw[<- HM.out];exact hqm
   obtain⟨b,off,rfl,hb,hc⟩:=HP.out (by omega)
   obtain⟨F,ys,d0,d1,d2,hF,hhi⟩:=hc q hql
   have HD:=hid (show ps.drop q=ps[q] :: ps.drop (q+1)from List.drop_eq_getElem_cons hql)
   clear hc
   generalize ps[q]=P at *
   obtain⟨f,lo,hi⟩:=P
   dsimp only at d1 d2 hF hhi
   have d0:=(hbw.cell (p:=⟨b,off+q*3,none⟩) hb).trans d0
   have d1:=(hbw.cell (p:=⟨b,off+q*3+1,none⟩) hb).trans d1
   have d2:=(hbw.cell (p:=⟨b,off+q*3+2,none⟩) hb).trans d2
   obtain⟨W,hW⟩:∃W,wr.alloc (.cells #[.nilFunc,.int .i64 0,.int .i64 0] 226)=W:=⟨_,rfl⟩
   have hbW:Below w.heap.size w W:=by rw[<- hW];exact hbw.alloc hbw.size _
   have hB:Bx W wr.heap.size 226 [.nilFunc,.int .i64 0,.int .i64 0]:=by rw[<- hW];exact Bx.new wr 226 _
   have hE:=((hB.set_ 0 (.func (.func F) #[] ys)).set_ 1 (.int .i64 (lo:Int))).set_ 2 (.int .i64 (hi:Int))
   have hb2:=((hbW.setCell (p:=⟨wr.heap.size,0,none⟩) hbw.size (.func (.func F) #[] ys)).setCell (p:=⟨wr.heap.size,1,none⟩) hbw.size (.int .i64 (lo:Int))).setCell (p:=⟨wr.heap.size,2,none⟩) hbw.size (.int .i64 (hi:Int))
   have HH:=hid (And.intro hE hb2)
   have e0:=hB.cell 0
   have e1:=hB.cell 1
   have e2:=hB.cell 2
   have f0:=hB.frozen 0
   have f1:=hB.frozen 1
   have f2:=hB.frozen 2
   simp only[List.getElem?_cons_zero,List.getElem?_cons_succ]at e0 e1 e2
   have HF:=hid hF
   clear hE hb2 hbW hB hF
   have hst:(store ⟨wr.heap.size,0,none⟩ (.func (.func F) #[] ys)).run Tryz.prog W = .ok () (W.setCell ⟨wr.heap.size,0,none⟩ (.func (.func F) #[] ys)):=by
    rw[run_store _ _ _ _ _ rfl,e0];simp[f0]
   go_wp2
   clear hst d0 d1 d2
   obtain⟨hB3,hb3⟩:=HH.out
   simp only[List.set_cons_zero,List.set_cons_succ]at hB3
   clear HH e0 e1 e2 f0 f1 f2 hW
   obtain⟨g5,hg5⟩:∃g5,g5=wr.heap.size:=⟨_,rfl⟩
   rw[<- hg5]at hB3 hb3 |-
   clear hg5 hbw
   generalize ((W.setCell ⟨g5,0,none⟩ (.func (.func F) #[] ys)).setCell ⟨g5,1,none⟩ (.int .i64 (lo:Int))).setCell ⟨g5,2,none⟩ (.int .i64 (hi:Int))=W3 at *
   have HF:=hid (HF.out.below hb3)
   have hOwn:=HF.out.own
   have hBK:∀t (h:t<ks'.length),W3.cell? ⟨bK,oK+t,none⟩=some (.int .i64 ks'[t])/\bK<W3.heap.size:=λt h=>by
    obtain⟨b',o',e,hl',hc'⟩:=(HI.out.below hb3) (by omega)
    cases e
    exact⟨hc' t h,hl'⟩
   have HBK:=hid hBK
   clear hBK
   obtain⟨T,hT⟩:∃T,T=tk ⟨f,lo,hi⟩ ks':=⟨_,rfl⟩
   have hTn:T<=n:=by have:=runF_le f ks';have:=HN.out;unfold tk at hT;simp only at hT;omega
   have HT:=hid hT
   have HD2:=hid (show rowB ps ks=(decide (lo<=T)&&rowB (ps.drop (q+1)) (ks'.drop T))by rw[<- HROW.out,HD.out,hT];rfl)
   have HRA:=hid (λ(t:Nat) (h1:t<=T) (h:t<ks'.length)=>runF_at f ks' t h (by unfold tk at hT;simp only at hT;omega))
   have HTM:=hid (show T=min hi (runF f ks')from hT)
   clear hT
   go_loopw [6] (λtv wz=>∃t:Nat,t<=T/\tv = .int .i64 (t:Int)/\Below W3.heap.size W3 wz) (λtv _=>n-(intOf tv).toNat)
   case atStart=>exact⟨0,Nat.zero_le _,rfl,Below.refl _ _⟩
   case round=>
    obtain⟨t,ht,rfl,hbz⟩:=hrel
    obtain⟨W4,rfl⟩:∃W4,W4=wr:=⟨_,rfl⟩
    by_cases htn:t<n
    ·have qA:decide ((t:Int)<(n:Int))=true:=decide_eq_true (by omega)
     have htk:t<ks'.length:=by rw[<- HN.out];exact htn
     by_cases hth:t<hi
     ·have qB:decide ((t:Int)<(hi:Int))=true:=decide_eq_true (by omega)
      obtain⟨hck,hbK3⟩:=HBK.out t htk
      have HR:=hid (HRA.out t ht htk)
      generalize ks'[t]=kk at *
      go_wp2
      refine gen_world (λw'=>Below W3.heap.size W3 w') hbz λW5 hbz5 =>?_
      refine q_region' W3 (by kernel_rfl) hbz5 ?_
      refine q_move rfl rfl ?_
      simp only[ap]
      refine q_move rfl rfl ?_
      simp only[ap]
      refine q_len (.inl rfl) rfl rfl ?_
      simp only[ap]
      refine q_lssI (b:=true) rfl rfl rfl qA ?_
      simp only[ap]
      refine q_move rfl rfl ?_
      simp only[ap]
      refine q_move rfl rfl ?_
      simp only[ap]
      refine q_field rfl rfl (run_field58_2 _) ?_
      simp only[ap]
      refine q_load rfl rfl (λw' h=>run_load3 (((hB3.below h hB3.lt).cell 2).trans rfl)) ?_
      simp only[ap]
      refine q_lssI (b:=true) rfl rfl rfl qB ?_
      simp only[ap]
      refine q_pick rfl rfl rfl ?_
      simp only[ap]
      refine q_move rfl rfl ?_
      simp only[ap]
      refine q_field rfl rfl (run_field58_0 _) ?_
      simp only[ap]
      refine q_load rfl rfl (λw' h=>run_load56 (((hB3.below h hB3.lt).cell 0).trans rfl)) ?_
      simp only[ap]
      refine q_move rfl rfl ?_
      simp only[ap]
      refine q_move rfl rfl ?_
      simp only[ap]
      refine q_index rfl rfl rfl (run_index22 _ _ _ _ _ htn) ?_
      simp only[ap]
      refine q_load rfl rfl (λw' h=>run_load3 ((Below.cell h (p:=⟨bK,oK+t,none⟩) hbK3).trans hck)) ?_
      simp only[ap]
      refine q_callv (args := #[.int .i64 kk]) (v :=.bool (f kk)) hOwn rfl rfl rfl (λw' h=>((HF.out.below h).calls kk).mono (λe w'' hh=>⟨hh.1,hh.2▸h⟩)) ?_
      simp only[ap]
      refine q_pick rfl rfl rfl ?_
      simp only[ap]
      refine wpQuiet_nil ?_
      intro W6 hC6
      cases hfk:f kk with
      |true=>
       have HTT:=hid (show t+1<=T by have h1:=HR.out.2 hfk;have h2:=HTM.out;omega)
       go_wp2
       go_roundw
       case rel=>exact⟨t+1,HTT.out,by go_num,hC6⟩
       case measure=>simp[intOf];omega
      |false=>
       have HTT:=hid (show T=t by
        have h1:¬t<runF f ks':=λh=>by have:=HR.out.1 h;rw[hfk]at this;cases this
        have h2:=HTM.out;omega)
       clear hfk
       rw[HTT.out]at HD2
       obtain⟨hbW6⟩:Nonempty (Below w.heap.size w W6):=⟨Below.trans hb3 (Below.mono hC6 hb3.size)⟩
       have r1:=((hB3.below hC6 hB3.lt).cell 1)
       simp only[List.getElem?_cons_zero,List.getElem?_cons_succ]at r1
       by_cases hlo:lo<=t
       ·have q1:decide (t<lo)=false:=decide_eq_false (by omega)
        have HDD:=hid (show rowB (ps.drop (q+1)) (ks'.drop t)=rowB ps ks by rw[HD2.out,decide_eq_true hlo];rfl)
        have hsl:=slice22k bK oK n c t (by omega) hcap
        have HIN:=hid (HI.out.drop t c (by have:=HN.out;omega))
        generalize (if c=t then oK else oK+t)=oN at *
        clear hlo
        go_wp2
        go_roundw
        case rel=>exact⟨q+1,oN,n-t,c-t,ks'.drop t,by omega,by go_num,rfl,by rw[List.length_drop,HN.out],by omega,by omega,HIN.out,HDD.out,hbW6⟩
        case measure=>simp[intOf];omega
       ·have q1:decide (t<lo)=true:=decide_eq_true (by omega)
        have HDD:=hid (show rowB ps ks=false by rw[HD2.out,decide_eq_false hlo];rfl)
        clear hlo
        go_wp2
        go_ret
        exact⟨ret_bool HDD.out.symm,hbW6⟩
     ·have qB:decide ((t:Int)<(hi:Int))=false:=decide_eq_false (by omega)
      have HTT:=hid (show T=t by have h2:=HTM.out;omega)
      go_wp2
      refine gen_world (λw'=>Below W3.heap.size W3 w') hbz λW5 hbz5 =>?_
      refine q_region' W3 (by kernel_rfl) hbz5 ?_
      refine q_move rfl rfl ?_
      simp only[ap]
      refine q_move rfl rfl ?_
      simp only[ap]
      refine q_len (.inl rfl) rfl rfl ?_
      simp only[ap]
      refine q_lssI (b:=true) rfl rfl rfl qA ?_
      simp only[ap]
      refine q_move rfl rfl ?_
      simp only[ap]
      refine q_move rfl rfl ?_
      simp only[ap]
      refine q_field rfl rfl (run_field58_2 _) ?_
      simp only[ap]
      refine q_load rfl rfl (λw' h=>run_load3 (((hB3.below h hB3.lt).cell 2).trans rfl)) ?_
      simp only[ap]
      refine q_lssI (b:=false) rfl rfl rfl qB ?_
      simp only[ap]
      refine q_pick (v :=.bool false) rfl rfl rfl ?_
      simp only[ap]
      refine q_move (v :=.bool false) rfl rfl ?_
      simp only[ap]
      go_big_quiet_skip
      go_big_quiet_skip
      go_big_quiet_skip
      go_big_quiet_skip
      go_big_quiet_skip
      go_big_quiet_skip
      go_big_quiet_skip
      refine q_pickN rfl rfl rfl ?_
      simp only[ap]
      refine wpQuiet_nil ?_
      intro W6 hC6
      rw[HTT.out]at HD2
      obtain⟨hbW6⟩:Nonempty (Below w.heap.size w W6):=⟨Below.trans hb3 (Below.mono hC6 hb3.size)⟩
      have r1:=((hB3.below hC6 hB3.lt).cell 1)
      simp only[List.getElem?_cons_zero,List.getElem?_cons_succ]at r1
      by_cases hlo:lo<=t
      ·have q1:decide (t<lo)=false:=decide_eq_false (by omega)
       have HDD:=hid (show rowB (ps.drop (q+1)) (ks'.drop t)=rowB ps ks by rw[HD2.out,decide_eq_true hlo];rfl)
       have hsl:=slice22k bK oK n c t (by omega) hcap
       have HIN:=hid (HI.out.drop t c (by have:=HN.out;omega))
       generalize (if c=t then oK else oK+t)=oN at *
       clear hlo
       go_wp2
       go_roundw
       case rel=>exact⟨q+1,oN,n-t,c-t,ks'.drop t,by omega,by go_num,rfl,by rw[List.length_drop,HN.out],by omega,by omega,HIN.out,HDD.out,hbW6⟩
       case measure=>simp[intOf];omega
      ·have q1:decide (t<lo)=true:=decide_eq_true (by omega)
       have HDD:=hid (show rowB ps ks=false by rw[HD2.out,decide_eq_false hlo];rfl)
       clear hlo
       go_wp2
       go_ret
       exact⟨ret_bool HDD.out.symm,hbW6⟩
    ·have qA:decide ((t:Int)<(n:Int))=false:=decide_eq_false (by omega)
     have HTT:=hid (show T=t by omega)
     go_wp2
     refine gen_world (λw'=>Below W3.heap.size W3 w') hbz λW5 hbz5 =>?_
     refine q_region' W3 (by kernel_rfl) hbz5 ?_
     refine q_move rfl rfl ?_
     simp only[ap]
     refine q_move rfl rfl ?_
     simp only[ap]
     refine q_len (.inl rfl) rfl rfl ?_
     simp only[ap]
     refine q_lssI (b:=false) rfl rfl rfl qA ?_
     simp only[ap]
     refine q_move (v :=.bool false) rfl rfl ?_
     simp only[ap]
     go_big_quiet_skip
     go_big_quiet_skip
     go_big_quiet_skip
     go_big_quiet_skip
     refine q_pickN (v :=.bool false) rfl rfl rfl ?_
     simp only[ap]
     refine q_move (v :=.bool false) rfl rfl ?_
     simp only[ap]
     go_big_quiet_skip
     go_big_quiet_skip
     go_big_quiet_skip
     go_big_quiet_skip
     go_big_quiet_skip
     go_big_quiet_skip
     go_big_quiet_skip
     refine q_pickN rfl rfl rfl ?_
     simp only[ap]
     refine wpQuiet_nil ?_
     intro W6 hC6
     rw[HTT.out]at HD2
     obtain⟨hbW6⟩:Nonempty (Below w.heap.size w W6):=⟨Below.trans hb3 (Below.mono hC6 hb3.size)⟩
     have r1:=((hB3.below hC6 hB3.lt).cell 1)
     simp only[List.getElem?_cons_zero,List.getElem?_cons_succ]at r1
     by_cases hlo:lo<=t
     ·have q1:decide (t<lo)=false:=decide_eq_false (by omega)
      have HDD:=hid (show rowB (ps.drop (q+1)) (ks'.drop t)=rowB ps ks by rw[HD2.out,decide_eq_true hlo];rfl)
      have hsl:=slice22k bK oK n c t (by omega) hcap
      have HIN:=hid (HI.out.drop t c (by have:=HN.out;omega))
      generalize (if c=t then oK else oK+t)=oN at *
      clear hlo
      go_wp2
      go_roundw
      case rel=>exact⟨q+1,oN,n-t,c-t,ks'.drop t,by omega,by go_num,rfl,by rw[List.length_drop,HN.out],by omega,by omega,HIN.out,HDD.out,hbW6⟩
      case measure=>simp[intOf];omega
     ·have q1:decide (t<lo)=true:=decide_eq_true (by omega)
      have HDD:=hid (show rowB ps ks=false by rw[HD2.out,decide_eq_false hlo];rfl)
      clear hlo
      go_wp2
      go_ret
      exact⟨ret_bool HDD.out.symm,hbW6⟩
  ·obtain rfl:q=m:=by omega
   have hqz:¬(q:Int)<(q:Int):=by omega
   rw[HM.out,List.drop_length]at HROW
   by_cases hz:n=0
   ·subst hz
    have HE:=hid (show rowB ps ks=true by rw[<- HROW.out];exact decide_eq_true HN.out.symm)
    go_wp2
    go_ret
    exact⟨ret_bool HE.out.symm,hbw⟩
   ·have HE:=hid (show rowB ps ks=false by rw[<- HROW.out];exact decide_eq_false (λh=>hz (HN.out.trans h)))
    have hz2:((n:Int)==0)=false:=by simp;exact hz
    go_wp2
    go_ret
    exact⟨ret_bool HE.out.symm,hbw⟩
def RowAt (w:World)(g:Nat)(ps:List Pt):Prop:=∃A m c,w.cell? ⟨g,0,none⟩=some (.slice A m c)/\Parts w A ps/\m=ps.length/\g<w.heap.size
theorem RowAt.below {w w':World}{g:Nat}{ps:List Pt}(h:RowAt w g ps)(hb:Below w.heap.size w w'):RowAt w' g ps:=by
 obtain⟨A,m,c,h1,h2,h3,h4⟩:=h
 exact⟨A,m,c,(hb.cell (p:=⟨g,0,none⟩) h4).trans h1,h2.below hb,h3,Nat.lt_of_lt_of_le h4 hb.size⟩
def txF (kd:Int):Nat:=
 if kd=2\/kd=3\/kd=4\/kd=5\/kd=7\/kd=8\/kd=9\/kd=16\/kd=17\/kd=18\/kd=19\/kd=22\/kd=23\/kd=24\/kd=25 then 208
 else if kd=13 then 238 else if kd=26 then 240 else if kd=27 then 241 else 234
def loB (kd:Int):Int:=if kd=2\/kd=4\/kd=5 then 1 else 0
def hiB (kd:Int):Int:=if kd=2\/kd=3\/kd=4\/kd=5 then 4 else if kd=20 then 9223372036854775807 else if kd=21 then 1 else 0
theorem own43:Own 208:=⟨_,Tryz.func208,by kernel_rfl,by kernel_rfl⟩
theorem own45:Own 238:=⟨_,Tryz.func238,by kernel_rfl,by kernel_rfl⟩
theorem own47:Own 240:=⟨_,Tryz.func240,by kernel_rfl,by kernel_rfl⟩
theorem own48:Own 241:=⟨_,Tryz.func241,by kernel_rfl,by kernel_rfl⟩
theorem own40:Own 234:=⟨_,Tryz.func234,by kernel_rfl,by kernel_rfl⟩
theorem txF_own (kd:Int):Own (txF kd):=by
 unfold txF
 split
 ·exact own43
 split
 ·exact own45
 split
 ·exact own47
 split
 ·exact own48
 ·exact own40
theorem txF_calls (kd:Int)(s:ByteArray)(w:World)(hmax:s.size<=281474976710656):Calls Tryz.prog (txF kd) #[.string s] w (BPost (txB kd s.data.toList) w):=by
 unfold txF txB
 split
 ·exact(ident_any s w hmax).mono λe w' h=>⟨h.1,by rw[<- h.2];exact Below.refl _ _⟩
 split
 ·exact isNameOrEmpty_any s w hmax
 split
 ·exact isUnary_any s w
 split
 ·exact isBinary_any s w
 ·exact isEmpty_any s w
theorem num_lohi (kd n:Int)(hn:n<=9223372036854775807):(decide (loB kd<=n)&&decide (n<=hiB kd))=numB kd n:=by
 unfold loB hiB numB
 rw[Bool.eq_iff_iff]
 split<;>split<;>(try split)<;>(try split)<;>(try split)<;>simp<;>omega
def ShPost (kd:Int)(w:World)(e:Ending)(w':World):Prop:=
 ∃g,e = .returned (.tuple #[.agg #[.func (.func (txF kd)) #[] #[],.int .i64 (loB kd),.int .i64 (hiB kd),.func (.func 266) #[] #[.pointer (some ⟨g,0,none⟩)]],.bool true])/\RowAt w' g (partsOf kd)/\Below w.heap.size w w'
theorem st_func (W:World)(b off:Nat)(F:Fn)(xs ys:Array Value)(h:(W.cell? ⟨b,off,none⟩).isSome=true)(hf:W.frozen? ⟨b,off,none⟩=false):(store ⟨b,off,none⟩ (.func F xs ys)).run Tryz.prog W = .ok () (W.setCell ⟨b,off,none⟩ (.func F xs ys)):=by
 obtain⟨u,hu⟩:=Option.isSome_iff_exists.1 h
 rw[run_store _ _ _ _ _ rfl,hu];simp[hf]
theorem parts_of {w:World}{b:Nat}{ps:List Pt}(hb:b<w.heap.size)(h:∀j (hj:j<ps.length),∃F ys,w.cell? ⟨b,j*3,none⟩=some (.func (.func F) #[] ys)/\w.cell? ⟨b,j*3+1,none⟩=some (.int .i64 (ps[j].lo:Int)) /\
  w.cell? ⟨b,j*3+2,none⟩=some (.int .i64 (ps[j].hi:Int))/\FitV w F ys ps[j].f/\ps[j].hi<=9223372036854775807):Parts w (some ⟨b,0,none⟩) ps:=λ_=>⟨b,0,rfl,hb,λj hj=>by
 obtain⟨F,ys,h1,h2,h3,h4⟩:=h j hj
 rw[Nat.zero_add]
 exact⟨F,ys,h1,h2,h3,h4⟩⟩
theorem far4 {W:World}{g b:Nat}{t:TypeId}{l l':List Value}(hR:Bx W g 209 l)(h:Bx W b t l')(ht:t≠209)(u0 u1 u2 u3:Value):Bx ((((W.setCell ⟨g,0,none⟩ u0).setCell ⟨g,1,none⟩ u1).setCell ⟨g,2,none⟩ u2).setCell ⟨g,3,none⟩ u3) b t l':=by
 have hn:b≠g:=λe=>by
  subst e
  have h2:=h.symm.trans hR
  simp only[Option.some.injEq,Obj.cells.injEq]at h2
  exact ht h2.2.1
 exact(((h.far (p:=⟨g,0,none⟩) hn u0).far (p:=⟨g,1,none⟩) hn u1).far (p:=⟨g,2,none⟩) hn u2).far (p:=⟨g,3,none⟩) hn u3
def HeadR (w:World)(g4 g5:Nat)(W:World):Prop:=∃gb,Bx W w.heap.size 209 [.nilFunc,.int .i64 0,.int .i64 0,.nilFunc]/\Bx W g4 226 [.func (.func 232) #[] #[],.int .i64 1,.int .i64 1] /\
 Bx W g5 226 [.func (.func 265) #[] #[.pointer (some ⟨gb,0,none⟩)],.int .i64 1,.int .i64 1]/\Bx W gb 3 [.int .i64 6]/\Below w.heap.size w W
end Go.Proofs.YtedkgofehbecmaaGreatDoor.Tr
