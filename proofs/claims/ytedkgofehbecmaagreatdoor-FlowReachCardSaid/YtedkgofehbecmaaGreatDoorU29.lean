/- PROVED here: parts N30 N31 of the claim. No condition but those in each theorem's own head. -/
import Derived.Test.YtedkgofehbecmaaGreatDoorU28
import Derived.StillTailTactics
import Derived.Deep.Light
import Derived.Test.YtedkgofehbecmaaGreatDoorU09
import Derived.Test.YtedkgofehbecmaaGreatDoorU24
namespace Go.Proofs.YtedkgofehbecmaaGreatDoor
open Go.Lib (hid)
open Go Go.RowKit
open Tr (Bx heap1 bt Nds Ints VPost BPost)
section
variable {w:World} {l:List Tr.Nd} {A O:Option Addr} {n bd bp:Nat}
theorem Prg.kr (h:Prg w l A n O bd bp){p:Nat}(hp:p<n):∀x ∈ (ndA l p).ks,0<=x/\x<(n:Int):=λx hx=>by
 have hpl:p<l.length:=by rw[<- h.len];exact hp
 obtain⟨e1,e2⟩:=h.ahead p hpl x (by rw[<- ndA_eq hpl];exact hx)
 omega
theorem Prg.kl (h:Prg w l A n O bd bp){p:Nat}(hp:p<n):(ndA l p).ks.length<=4000:=by
 have hpl:p<l.length:=by rw[<- h.len];exact hp
 rw[ndA_eq hpl]
 exact h.kids _ (List.getElem_mem hpl)
theorem Prg.sl (h:Prg w l A n O bd bp){p:Nat}(hp:p<n):(sgP l p).length<=4000:=Nat.le_trans (sgX_len l _) (h.kl hp)
set_option maxRecDepth 100000 in
set_option maxHeartbeats 1500000 in
theorem fitsSign_any (h:Prg w l A n O bd bp)(c co p:Nat)(hp:p<n)(K:Option Addr)(m cK:Nat)(hK:Ints w K (ndA l p).ks)(hm:m=(ndA l p).ks.length):Calls Tryz.prog 219 #[PrV A n c O co bd bp,.agg #[.int .i64 (ndA l p).kd,.int .i64 (ndA l p).n,.int .i64 (ndA l p).pl,.string (ndA l p).tx,.slice K m cK]] w (BPost (fitB l p) w):=by
 unfold PrV
 have hb1:=bt (heap1 w (.cells #[.slice A n c,.slice O n co,.map (some bd),.map (some bp)] 87)) (heap1 (w.alloc (.cells #[.slice A n c,.slice O n co,.map (some bd),.map (some bp)] 87)) (.cells #[.int .i64 (ndA l p).kd,.int .i64 (ndA l p).n,.int .i64 (ndA l p).pl,.string (ndA l p).tx,.slice K m cK] 50))
 have HB1:=hid hb1
 have HA:=hid (λW t (hb:Below ((w.alloc (.cells #[.slice A n c,.slice O n co,.map (some bd),.map (some bp)] 87)).alloc (.cells #[.int .i64 (ndA l p).kd,.int .i64 (ndA l p).n,.int .i64 (ndA l p).pl,.string (ndA l p).tx,.slice K m cK] 50)).heap.size ((w.alloc (.cells #[.slice A n c,.slice O n co,.map (some bd),.map (some bp)] 87)).alloc (.cells #[.int .i64 (ndA l p).kd,.int .i64 (ndA l p).n,.int .i64 (ndA l p).pl,.string (ndA l p).tx,.slice K m cK] 50)) W)=>areAll_any (h.below (bt hb1 hb)) c co K m cK (ndA l p).ks t (hK.below (bt hb1 hb)) hm (h.kr hp) (by rw[hm];exact h.kl hp))
 have hX1:Bx ((w.alloc (.cells #[.slice A n c,.slice O n co,.map (some bd),.map (some bp)] 87)).alloc (.cells #[.int .i64 (ndA l p).kd,.int .i64 (ndA l p).n,.int .i64 (ndA l p).pl,.string (ndA l p).tx,.slice K m cK] 50)) w.heap.size 87 [.slice A n c,.slice O n co,.map (some bd),.map (some bp)]:=(Bx.new w 87 _).alloc _
 have hX2:=Bx.new (w.alloc (.cells #[.slice A n c,.slice O n co,.map (some bd),.map (some bp)] 87)) 50 [.int .i64 (ndA l p).kd,.int .i64 (ndA l p).n,.int .i64 (ndA l p).pl,.string (ndA l p).tx,.slice K m cK]
 rw[World.size_alloc]at hX2
 unfold PrV at HA
 unfold fitB
 clear h hb1 hK hm hp
 generalize (ndA l (p:Int)).ks=ks at *
 generalize (ndA l (p:Int)).tx=tx at *
 generalize (ndA l (p:Int)).kd=k at *
 generalize (ndA l (p:Int)).n=nn at *
 generalize (ndA l (p:Int)).pl=pl at *
 have HX:=hid (And.intro hX1 hX2)
 clear hX1 hX2
 by_cases e0:tx=⟨#[33]⟩
 ·subst e0
  rw[if_pos (by simp)]
  go_enter Tryz.func219,Tryz.ntmps219
  go_wp2_with (go_at_call 217;refine(HA.out _ 2 (Below.refl _ _)).mono ?_)
  rintro e w2 ⟨rfl,hb2⟩
  have HB2:=hid (bt HB1.out hb2)
  clear hb2
  go_wp2
  go_ret
  exact⟨rfl,HB2.out⟩
 have q0:(tx.toList==[33])=false:=lst_ne e0
 by_cases e1:tx=⟨#[38,38]⟩
 ·subst e1
  rw[if_pos (by simp)]
  go_enter Tryz.func219,Tryz.ntmps219
  go_wp2_with (go_at_call 217;refine(HA.out _ 2 (Below.refl _ _)).mono ?_)
  rintro e w2 ⟨rfl,hb2⟩
  have HB2:=hid (bt HB1.out hb2)
  clear hb2
  go_wp2
  go_ret
  exact⟨rfl,HB2.out⟩
 have q1:(tx.toList==[38,38])=false:=lst_ne e1
 by_cases e2:tx=⟨#[124,124]⟩
 ·subst e2
  rw[if_pos (by simp)]
  go_enter Tryz.func219,Tryz.ntmps219
  go_wp2_with (go_at_call 217;refine(HA.out _ 2 (Below.refl _ _)).mono ?_)
  rintro e w2 ⟨rfl,hb2⟩
  have HB2:=hid (bt HB1.out hb2)
  clear hb2
  go_wp2
  go_ret
  exact⟨rfl,HB2.out⟩
 have q2:(tx.toList==[124,124])=false:=lst_ne e2
 rw[if_neg (by simp[e0,e1,e2])]
 by_cases e3:tx=⟨#[61,61]⟩
 ·subst e3
  rw[if_pos (by simp)]
  cases hA:areB l ks 1 with
  |true=>
   have HA1:=hid (HA.out _ 1 (Below.refl _ _))
   rw[hA]at HA1
   clear hA
   go_enter Tryz.func219,Tryz.ntmps219
   go_wp2_with (go_at_call 217;refine HA1.out.mono ?_)
   rintro e w2 ⟨rfl,hb2⟩
   have HB2:=hid (bt HB1.out hb2)
   clear hb2
   go_wp2
   go_ret
   exact⟨rfl,HB2.out⟩
  |false=>
   have HA1:=hid (HA.out _ 1 (Below.refl _ _))
   rw[hA]at HA1
   clear hA
   go_enter Tryz.func219,Tryz.ntmps219
   go_wp2_with (go_at_call 217;refine HA1.out.mono ?_)
   rintro e w2 ⟨rfl,hb2⟩
   have hB2:=HX.out.1.below hb2 HX.out.1.lt
   have hN2:=HX.out.2.below hb2 HX.out.2.lt
   have c0:=(hB2.cell 0).trans rfl
   have c1:=(hB2.cell 1).trans rfl
   have c2:=(hB2.cell 2).trans rfl
   have c3:=(hB2.cell 3).trans rfl
   have n4:=(hN2.cell 4).trans rfl
   clear hB2 hN2
   have HA2:=hid (HA.out _ 2 hb2)
   have HB2:=hid (bt HB1.out hb2)
   clear hb2
   go_wp2_with (go_at_call 217;refine HA2.out.mono ?_)
   rintro e w3 ⟨rfl,hb3⟩
   have HB3:=hid (bt HB2.out hb3)
   clear hb3
   go_wp2
   go_ret
   exact⟨rfl,HB3.out⟩
 have q3:(tx.toList==[61,61])=false:=lst_ne e3
 by_cases e4:tx=⟨#[33,61]⟩
 ·subst e4
  rw[if_pos (by simp)]
  cases hA:areB l ks 1 with
  |true=>
   have HA1:=hid (HA.out _ 1 (Below.refl _ _))
   rw[hA]at HA1
   clear hA
   go_enter Tryz.func219,Tryz.ntmps219
   go_wp2_with (go_at_call 217;refine HA1.out.mono ?_)
   rintro e w2 ⟨rfl,hb2⟩
   have HB2:=hid (bt HB1.out hb2)
   clear hb2
   go_wp2
   go_ret
   exact⟨rfl,HB2.out⟩
  |false=>
   have HA1:=hid (HA.out _ 1 (Below.refl _ _))
   rw[hA]at HA1
   clear hA
   go_enter Tryz.func219,Tryz.ntmps219
   go_wp2_with (go_at_call 217;refine HA1.out.mono ?_)
   rintro e w2 ⟨rfl,hb2⟩
   have hB2:=HX.out.1.below hb2 HX.out.1.lt
   have hN2:=HX.out.2.below hb2 HX.out.2.lt
   have c0:=(hB2.cell 0).trans rfl
   have c1:=(hB2.cell 1).trans rfl
   have c2:=(hB2.cell 2).trans rfl
   have c3:=(hB2.cell 3).trans rfl
   have n4:=(hN2.cell 4).trans rfl
   clear hB2 hN2
   have HA2:=hid (HA.out _ 2 hb2)
   have HB2:=hid (bt HB1.out hb2)
   clear hb2
   go_wp2_with (go_at_call 217;refine HA2.out.mono ?_)
   rintro e w3 ⟨rfl,hb3⟩
   have HB3:=hid (bt HB2.out hb3)
   clear hb3
   go_wp2
   go_ret
   exact⟨rfl,HB3.out⟩
 have q4:(tx.toList==[33,61])=false:=lst_ne e4
 rw[if_neg (by simp[e3,e4])]
 clear e0 e1 e2 e3 e4
 go_enter Tryz.func219,Tryz.ntmps219
 go_wp2_with (go_at_call 217;refine(HA.out _ 1 (Below.refl _ _)).mono ?_)
 rintro e w2 ⟨rfl,hb2⟩
 have HB2:=hid (bt HB1.out hb2)
 clear hb2
 go_wp2
 go_ret
 exact⟨rfl,HB2.out⟩
set_option maxRecDepth 100000 in
set_option maxHeartbeats 1500000 in
theorem isPlain_any (h:Prg w l A n O bd bp)(c co q:Nat)(hq:q<n):Calls Tryz.prog 218 #[PrV A n c O co bd bp,.int .i64 (q:Int)] w (BPost (plnB l q) w):=by
 have hb0:=heap1 w (.cells #[.slice A n c,.slice O n co,.map (some bd),.map (some bp)] 87)
 have HB0:=hid hb0
 have HS:=hid (sig_any (h.below hb0) c co q hq)
 have HL:=hid (h.sl hq)
 have HP:∀W,Calls Tryz.prog 258 #[] W (λe w'=>∃K c,e = .returned (.agg #[.slice K 1 c,.int .i64 1])/\Ints w' K [1]/\Below W.heap.size W w'/\∀a,K=some a->W.heap.size<=a.block):=plainSig_any
 unfold PrV at HS
 unfold PrV plnB
 clear h hb0 hq
 generalize sgP l q=xs at *
 generalize (ndA l (q:Int)).n=rs at *
 go_enter Tryz.func218,Tryz.ntmps218
 go_wp2_with (go_at_call 187;refine HS.out.mono ?_)
 rintro e w1 ⟨K1,c1,rfl,hI1,hb1,_⟩
 obtain⟨m,hm⟩:∃m,m=xs.length:=⟨_,rfl⟩
 rw[<- hm]
 have HH1:=hid (And.intro hI1 (And.intro hb1 hm))
 clear hI1 hb1 hm
 go_wp2_with (go_at_call 258;refine(HP _).mono ?_)
 rintro e w2 ⟨K2,c2,rfl,hI2,hb2,_⟩
 have HH2:=hid (And.intro hI2 hb2)
 clear hI2 hb2
 go_wp2_with (go_at_call 188;refine(sameSig_any K1 K2 m 1 c1 c2 xs [1] rs 1 w2 (HH1.out.1.below HH2.out.2) HH2.out.1 HH1.out.2.2 rfl (by have:=HL.out;have:=HH1.out.2.2;omega)).mono ?_)
 rintro e w3 ⟨rfl,hb3⟩
 have HH3:=hid hb3
 clear hb3
 go_wp2
 go_ret
 exact⟨rfl,bt HB0.out (bt HH1.out.2.1 (bt HH2.out.2 HH3.out))⟩
set_option maxRecDepth 100000 in
set_option maxHeartbeats 1500000 in
theorem hasMain_any (h:Prg w l A n O bd bp)(c co:Nat):Calls Tryz.prog 134 #[PrV A n c O co bd bp] w (BPost (manB l) w):=by
 have hb0:=heap1 w (.cells #[.slice A n c,.slice O n co,.map (some bd),.map (some bp)] 87)
 have HB0:=hid hb0
 have HP:=hid (procedure_any (h.below hb0) c co ⟨#[109,97,105,110]⟩ (by decide))
 unfold manB
 cases hp:prF l ⟨#[109,97,105,110]⟩ 0 with
 |none=>
  rw[hp]at HP
  unfold PrV at HP
  unfold PrV
  clear h hb0 hp
  go_enter Tryz.func134,Tryz.ntmps134
  go_wp2_with (go_at_call 106;refine HP.out.mono ?_)
  rintro e w1 ⟨rfl,hb1⟩
  have HB1:=hid (bt HB0.out hb1)
  clear hb1
  rw[show optZ none = -1 from rfl]
  go_wp2
  go_ret
  exact⟨rfl,HB1.out⟩
 |some q=>
  have hq:q<n:=by rw[h.len];exact(prF_lt hp).1
  have HS:=hid (λW (hb:Below w.heap.size w W)=>sig_any (h.below hb) c co q hq)
  have HX:=hid (Bx.new w 87 [.slice A n c,.slice O n co,.map (some bd),.map (some bp)])
  have HL:=hid (h.sl hq)
  rw[hp,show optZ (some q)=(q:Int)from rfl]at HP
  have hne:((q:Int) != -1)=true:=by simp
  unfold PrV at HP HS
  unfold PrV
  show Calls _ _ _ _ (BPost (decide (sgP l q=[])&&decide ((ndA l q).n=0)) w)
  generalize sgP l q=xs at *
  generalize (ndA l (q:Int)).n=rs at *
  clear h hb0 hp hq
  go_enter Tryz.func134,Tryz.ntmps134
  go_wp2_with (go_at_call 106;refine HP.out.mono ?_)
  rintro e w1 ⟨rfl,hb1⟩
  have hB2:=HX.out.below hb1 HX.out.lt
  have c0:=(hB2.cell 0).trans rfl
  have c1:=(hB2.cell 1).trans rfl
  have c2:=(hB2.cell 2).trans rfl
  have c3:=(hB2.cell 3).trans rfl
  have HB1:=hid (bt HB0.out hb1)
  clear hb1 hB2
  go_wp2_with (go_at_call 187;refine(HS.out _ HB1.out).mono ?_)
  rintro e w2 ⟨K1,c1,rfl,hI1,hb2,_⟩
  obtain⟨m,hm⟩:∃m,m=xs.length:=⟨_,rfl⟩
  rw[<- hm]
  have HH1:=hid (And.intro hI1 (And.intro hb2 hm))
  clear hI1 hb2 hm
  go_wp2_with (go_at_call 188;refine(sameSig_any K1 none m 0 c1 0 xs [] rs 0 w2 HH1.out.1 (λh=>absurd h (Nat.lt_irrefl 0)) HH1.out.2.2 rfl (by have:=HL.out;have:=HH1.out.2.2;omega)).mono ?_)
  rintro e w3 ⟨rfl,hb3⟩
  have HH3:=hid hb3
  clear hb3
  go_wp2
  go_ret
  exact⟨rfl,bt HB1.out (bt HH1.out.2.1 HH3.out)⟩
end
end Go.Proofs.YtedkgofehbecmaaGreatDoor
namespace Go.Proofs.YtedkgofehbecmaaGreatDoor
open Go.Lib (hid)
open Go Go.RowKit
open Tr (Bx heap1 bt Nds Ints VPost BPost cell_same)
structure CeC (w:World) (P:List Value) (u v:Value) (wr:World):Prop where
 b:Bx wr w.heap.size 87 P
 s:Bx wr (w.heap.size+1) 194 [u,v]
 lo:Below w.heap.size w wr
 sz:w.heap.size+1+1<=wr.heap.size
section
variable {w:World} {P:List Value} {u v:Value} {wr wr':World}
theorem CeC.below (h:CeC w P u v wr)(hb:Below wr.heap.size wr wr'):CeC w P u v wr':=⟨h.b.below hb h.b.lt,h.s.below hb h.s.lt,bt h.lo hb,Nat.le_trans h.sz hb.size⟩
theorem CeC.drew (h:CeC w P u v wr):CeC w P u v { wr with drawn:=wr.drawn+1 }:=⟨h.b,h.s,bdrew h.lo,h.sz⟩
theorem CeC.put (h:CeC w P u v wr)(x y:Value):CeC w P x y ((wr.setCell ⟨w.heap.size+1,0,none⟩ x).setCell ⟨w.heap.size+1,1,none⟩ y):=
 ⟨(h.b.far (p:=⟨w.heap.size+1,0,none⟩) (by show w.heap.size≠w.heap.size+1;omega) _).far (p:=⟨w.heap.size+1,1,none⟩) (by show w.heap.size≠w.heap.size+1;omega) _,(h.s.set_ 0 x).set_ 1 y,(h.lo.setCell (p:=⟨w.heap.size+1,0,none⟩) (by show w.heap.size<=w.heap.size+1;omega) _).setCell (p:=⟨w.heap.size+1,1,none⟩) (by show w.heap.size<=w.heap.size+1;omega) _,by rw[World.size_setCell,World.size_setCell];exact h.sz⟩
end
theorem cell_far2 {w:World}{b j g i i2:Nat}{x y:Value}(h:b≠g)(_h2:b≠g):((w.setCell ⟨g,i,none⟩ x).setCell ⟨g,i2,none⟩ y).cell? ⟨b,j,none⟩=w.cell? ⟨b,j,none⟩:=by
 rw[cell_same (w:=w.setCell ⟨g,i,none⟩ x) (heap_setCell_other _ _ _ _ h),cell_same (heap_setCell_other _ _ _ _ h)]
theorem own91:Own 106:=⟨_,Tryz.func106,by kernel_rfl,by kernel_rfl⟩
theorem own145:Own 187:=⟨_,Tryz.func187,by kernel_rfl,by kernel_rfl⟩
theorem own153:Own 258:=⟨_,Tryz.func258,by kernel_rfl,by kernel_rfl⟩
theorem run_load83 {w:World}{b n c co bd bp:Nat}{A O:Option Addr}(h:Bx w b 87 [.slice A n c,.slice O n co,.map (some bd),.map (some bp)]):(Instr.loadAt 87 (.pointer (some ⟨b,0,none⟩))).run Tryz.prog w = .ok (.agg #[.slice A n c,.slice O n co,.map (some bd),.map (some bp)]) w:=by
 have c0:=(h.cell 0).trans rfl
 have c1:=(h.cell 1).trans rfl
 have c2:=(h.cell 2).trans rfl
 have c3:=(h.cell 3).trans rfl
 simp[go_sem,c0,c1,c2,c3]
section
variable {K:Act->World->Prop} {Q:Exit->Act->World->Prop} {a:Act} {w:World} {o:Oper}
theorem store139_wp {x y:Operand}{g n c:Nat}{A:Option Addr}{r:Int}{u0 u1:Value}(ho:o.op = .store 194 x y)(hx:a.eval x = .pointer (some ⟨g,0,none⟩))(hy:a.eval y = .agg #[.slice A n c,.int .i64 r])(hB:Bx w g 194 [u0,u1])
  (h:K (a.put o.dst undef) ((w.setCell ⟨g,0,none⟩ (.slice A n c)).setCell ⟨g,1,none⟩ (.int .i64 r))):o.wp Tryz.prog a w K Q:=by
 have c0:=(hB.cell 0).trans rfl
 have c1:=(hB.cell 1).trans rfl
 have f0:=hB.frozen 0
 have f1:=hB.frozen 1
 have d1:=((hB.set_ 0 (.slice A n c)).cell 1).trans rfl
 have g1:=(hB.set_ 0 (.slice A n c)).frozen 1
 unfold Oper.wp execOp
 simp only[ho,hx,hy]
 simp[go_sem,c0,f0,d1,g1,Result.andThen]
 exact h
end
def CePost (xs:List Int)(rs:Int)(ok:Bool)(w:World)(e:Ending)(w':World):Prop:=∃K c,e = .returned (.tuple #[.agg #[.slice K xs.length c,.int .i64 rs],.bool ok])/\Ints w' K xs/\Below w.heap.size w w'
section
variable {w:World} {l:List Tr.Nd} {A O:Option Addr} {n bd bp:Nat}
set_option maxRecDepth 100000 in
set_option maxHeartbeats 1500000 in
theorem callee_any (h:Prg w l A n O bd bp)(c co p k:Nat)(hp:p<n)(ks:List Int)(hks:(ndA l p).ks=(k:Int) :: ks)(hk:k<n)(hun:dnA l p (calN l p)≠none\/prF l (calN l p) 0≠none):Calls Tryz.prog 260 #[PrV A n c O co bd bp,.int .i64 (p:Int)] w (CePost (calS l p).1.1 (calS l p).1.2 (calS l p).2 w):=by
 unfold PrV
 have hb0:=heap1 w (.cells #[.slice A n c,.slice O n co,.map (some bd),.map (some bp)] 87)
 have hb1:=bt hb0 (heap1 (w.alloc (.cells #[.slice A n c,.slice O n co,.map (some bd),.map (some bp)] 87)) (.cells #[.slice none 0 0,.int .i64 0] 194))
 have xl:p<l.length:=by rw[<- h.len];exact hp
 have xz:(p:Int)<(n:Int):=by omega
 obtain⟨bA,off,K,cK,rfl,xt,x0,x1,x2,x3,x4,xI⟩:=node_at h.nds (Below.refl _ w) p xl
 rw[<- ndA_eq xl]at x0 x1 x2 x3 x4 xI
 have hc1:CeC w [.slice (some ⟨bA,off,none⟩) n c,.slice O n co,.map (some bd),.map (some bp)] (.slice none 0 0) (.int .i64 0) ((w.alloc (.cells #[.slice (some ⟨bA,off,none⟩) n c,.slice O n co,.map (some bd),.map (some bp)] 87)).alloc (.cells #[.slice none 0 0,.int .i64 0] 194)):=by
  have k2:=Bx.new (w.alloc (.cells #[.slice (some ⟨bA,off,none⟩) n c,.slice O n co,.map (some bd),.map (some bp)] 87)) 194 [.slice none 0 0,.int .i64 0]
  rw[World.size_alloc]at k2
  exact⟨(Bx.new w 87 _).alloc _,k2,hb1,by rw[World.size_alloc,World.size_alloc];exact Nat.le_refl _⟩
 have HC1:=hid hc1
 have HN:=hid (calleeName_any (h.below hb1) c co p k hp hks hk)
 have hcs:(calN l p).size<=281474976710656:=by
  have hkl:k<l.length:=by rw[<- h.len];exact hk
  unfold calN
  rw[kidA_0 hks,ndA_eq hkl]
  exact h.text _ (List.getElem_mem hkl)
 have HD:=hid (λW (hb:Below w.heap.size w W)=>denoted_any (h.below hb) c co p hp (calN l p) hcs)
 unfold PrV at HN HD
 unfold calS
 cases hd:dnA l p (calN l p) with
 |none=>
  obtain⟨q,hq⟩:∃q,prF l (calN l p) 0=some q:=by
   cases hq:prF l (calN l p) 0 with
   |none=>
    rcases hun with e |e
    ·exact absurd hd e
    ·exact absurd hq e
   |some q=>exact⟨q,rfl⟩
  have hqn:q<n:=by rw[h.len];exact(prF_lt hq).1
  rw[hd,show optZ none = -1 from rfl]at HD
  have HP:=hid (λW (hb:Below w.heap.size w W)=>procedure_any (h.below hb) c co (calN l p) hcs)
  rw[hq,show optZ (some q)=(q:Int)from rfl]at HP
  have HS:=hid (λW (hb:Below w.heap.size w W)=>sig_any (h.below hb) c co q hqn)
  unfold PrV at HP HS
  rw[hq]
  show Calls _ _ _ _ (CePost (sgP l (q:Int)) (ndA l (q:Int)).n true w)
  clear h hb0 hb1 hc1 hks hun hd hq xI x0 x1 x2 x3 x4 hcs hqn hp xl
  generalize calN l p=nm at *
  generalize sgP l (q:Int)=xs at *
  generalize (ndA l (q:Int)).n=rs at *
  go_enter Tryz.func260,Tryz.ntmps260
  go_wp2_with (go_at_call 215;refine HN.out.mono ?_)
  rintro e w2 ⟨rfl,hb2⟩
  have hc2:=HC1.out.below hb2
  have HC2:=hid hc2
  have b0:=(hc2.b.cell 0).trans rfl
  have b1:=(hc2.b.cell 1).trans rfl
  have b2:=(hc2.b.cell 2).trans rfl
  have b3:=(hc2.b.cell 3).trans rfl
  clear hb2 hc2
  go_wp2_with (go_at_call 214;refine(HD.out w2 HC2.out.lo).mono ?_)
  rintro e w3 ⟨rfl,hb3⟩
  have hc3:=HC2.out.below hb3
  have HC3:=hid hc3
  clear hb3 hc3 b0 b1 b2 b3
  go_upto_region 4 with(fail)
  have hS:=HC3.out.drew
  have hlo:=HC3.out.drew.lo
  refine wp_region_held (S:=λw'=>∃u v,CeC w [.slice (some ⟨bA,off,none⟩) n c,.slice O n co,.map (some bd),.map (some bp)] u v w') (by kernel_rfl) ?_
  generalize ({ w3 with drawn:=w3.drawn+1 }:World)=W5 at *
  refine hpu 0 (.agg #[.slice (some ⟨bA,off,none⟩) n c,.slice O n co,.map (some bd),.map (some bp)]) (by kernel_rfl) rfl rfl (λ_ _ _ h=>h) rfl (y_load rfl rfl (λw' q=>by obtain⟨u,v,q⟩:=q;exact run_load83 q.b)) ⟨_,_,hS⟩ ?_
  simp only[ap]
  refine hpu 1 (.agg #[.slice (some ⟨bA,off,none⟩) n c,.slice O n co,.map (some bd),.map (some bp)]) (by kernel_rfl) rfl rfl (λ_ _ _ h=>h) rfl (y_load rfl rfl (λw' q=>by obtain⟨u,v,q⟩:=q;exact run_load83 q.b)) ⟨_,_,hS⟩ ?_
  simp only[ap]
  refine hpu 2 (.string nm) (by kernel_rfl) rfl rfl (λ_ _ _ h=>h) rfl (y_move rfl rfl) ⟨_,_,hS⟩ ?_
  simp only[ap]
  refine h_callx 3 ({ dst:=some 20,op:=Op.call { callee:=Callee.value (Operand.func 106),args := #[Operand.tmp 18,Operand.tmp 19],argTypes := #[87,9] },type:=3,pos := "faults.go:112",after := #[{ on:=1,ground:=Ground.data },{ on:=2,ground:=Ground.data }],guard:=none }:Oper) (args := #[.agg #[.slice (some ⟨bA,off,none⟩) n c,.slice O n co,.map (some bd),.map (some bp)],.string nm]) own91 rfl rfl (by kernel_rfl) rfl rfl (HP.out W5 hlo) ?_
  rintro e w6 ⟨rfl,hb6⟩
  refine .inr ⟨_,rfl,⟨_,_,hS.below hb6⟩,?_⟩
  simp only[Act.put,List.setIfInBounds_toArray,List.set_cons_zero,List.set_cons_succ]
  refine h_callx 4 ({ dst:=some 21,op:=Op.call { callee:=Callee.value (Operand.func 187),args := #[Operand.tmp 17,Operand.tmp 20],argTypes := #[87,3] },type:=194,pos := "faults.go:112",after := #[{ on:=0,ground:=Ground.data },{ on:=3,ground:=Ground.data },{ on:=3,ground:=Ground.chain }],guard:=none }:Oper) (args := #[.agg #[.slice (some ⟨bA,off,none⟩) n c,.slice O n co,.map (some bd),.map (some bp)],.int .i64 (q:Int)]) own145 rfl rfl (by kernel_rfl) rfl rfl (HS.out w6 (bt hlo hb6)) ?_
  rintro e W4 ⟨VK,vc,rfl,hI4,hb4,hfr⟩
  have hS4:=(hS.below hb6).below hb4
  refine .inr ⟨_,rfl,⟨_,_,hS4⟩,?_⟩
  simp only[Act.put,List.setIfInBounds_toArray,List.set_cons_zero,List.set_cons_succ]
  obtain⟨m,hm⟩:∃m,m=xs.length:=⟨_,rfl⟩
  rw[<- hm]
  have HM:=hid hm
  refine h_one 5 ({ dst:=none,op:=Op.store 194 (Operand.tmp 4) (Operand.tmp 21),type:=0,pos := "faults.go:112",after := #[{ on:=4,ground:=Ground.data },{ on:=4,ground:=Ground.chain },{ on:=0,ground:=Ground.phase },{ on:=1,ground:=Ground.phase },{ on:=2,ground:=Ground.phase },{ on:=3,ground:=Ground.phase },{ on:=4,ground:=Ground.phase }],guard:=none }:Oper) rfl (by kernel_rfl) rfl ?_
  have hS9:=hS4.put (.slice VK m vc) (.int .i64 rs)
  refine store139_wp rfl rfl rfl hS4.s ⟨⟨_,_,hS9⟩,?_⟩
  simp only[Act.put]
  have hI9:Ints ((W4.setCell ⟨w.heap.size+1,0,none⟩ (.slice VK m vc)).setCell ⟨w.heap.size+1,1,none⟩ (.int .i64 rs)) VK xs:=λh0=>by
   obtain⟨b,off',rfl,hl,hc⟩:=hI4 h0
   have h9:=hfr _ rfl
   have h8:=(hS.below hb6).sz
   have hne:b≠w.heap.size+1:=by have:w6.heap.size<=b:=h9;omega
   exact⟨b,off',rfl,by rw[World.size_setCell,World.size_setCell];exact hl,λj hj=>by rw[cell_far2 hne hne];exact hc j hj⟩
  clear hI4 hm hb4 hb6 hlo hfr
  refine hpu 6 (.bool true) (by kernel_rfl) rfl rfl (λ_ _ _ h=>h) rfl (y_assign rfl rfl) ⟨_,_,hS9⟩ ?_
  simp only[ap]
  refine wpAnyH_done (by kernel_rfl) ?_ _
  have HH:=hid (And.intro hS9 hI9)
  clear hS hS4 hS9 hI9
  generalize (W4.setCell ⟨w.heap.size+1,0,none⟩ (.slice VK m vc)).setCell ⟨w.heap.size+1,1,none⟩ (.int .i64 rs)=WE at *
  have z0:=(HH.out.1.s.cell 0).trans rfl
  have z1:=(HH.out.1.s.cell 1).trans rfl
  go_wp2
  refine bodyPost_ret (v :=.tuple #[.agg #[.slice VK m vc,.int .i64 rs],.bool true]) (by simp[results,Tryz.f260,go_sem,z0,z1]) rfl ?_
  exact⟨VK,vc,by rw[HM.out],HH.out.2,HH.out.1.lo⟩
 |some d=>
  have hdn:d<n:=by rw[h.len];exact(dnA_lt hd).1
  rw[hd,show optZ (some d)=(d:Int)from rfl]at HD
  have ul:d<l.length:=by rw[<- h.len];exact hdn
  have uz:(d:Int)<(n:Int):=by omega
  obtain⟨bBu,offu,K2,cK2,eu,ut,u0,u1,u2,u3,u4,uI⟩:=node_at h.nds (Below.refl _ w) d ul
  cases eu
  rw[<- ndA_eq ul]at u0 u1 u2 u3 u4 uI
  have hde:((d:Int) == -1)=false:=beq_eq_false_iff_ne.2 (by omega)
  have HP:∀W,Calls Tryz.prog 258 #[] W (λe w'=>∃K c,e = .returned (.agg #[.slice K 1 c,.int .i64 1])/\Ints w' K [1]/\Below W.heap.size W w'/\∀a,K=some a->W.heap.size<=a.block):=plainSig_any
  show Calls _ _ _ _ (CePost [1] 1 (decide ((ndA l d).n=4)) w)
  clear h hb0 hb1 hc1 hks hun hd xI x0 x1 x2 x3 x4 hcs hp xl uI u0 u2 u3 u4 ul
  generalize calN l p=nm at *
  generalize (ndA l (d:Int)).n=dn at *
  go_enter Tryz.func260,Tryz.ntmps260
  go_wp2_with (go_at_call 215;refine HN.out.mono ?_)
  rintro e w2 ⟨rfl,hb2⟩
  have hc2:=HC1.out.below hb2
  have HC2:=hid hc2
  have b0:=(hc2.b.cell 0).trans rfl
  have b1:=(hc2.b.cell 1).trans rfl
  have b2:=(hc2.b.cell 2).trans rfl
  have b3:=(hc2.b.cell 3).trans rfl
  clear hb2 hc2
  go_wp2_with (go_at_call 214;refine(HD.out w2 HC2.out.lo).mono ?_)
  rintro e w3 ⟨rfl,hb3⟩
  have hc3:=HC2.out.below hb3
  have HC3:=hid hc3
  clear hb3 hc3 b0 b1 b2 b3
  go_upto_region 5 with(fail)
  have hS:=HC3.out.drew
  refine wp_region_held (S:=λw'=>∃u v,CeC w [.slice (some ⟨bA,off,none⟩) n c,.slice O n co,.map (some bd),.map (some bp)] u v w') (by kernel_rfl) ?_
  generalize ({ w3 with drawn:=w3.drawn+1 }:World)=W5 at *
  refine hpu 1 (.pointer (some ⟨w.heap.size,0,none⟩)) (by kernel_rfl) rfl rfl (λ_ _ _ h=>h) rfl (y_field rfl rfl (run_field83_0 _)) ⟨_,_,hS⟩ ?_
  simp only[ap]
  refine hpu 2 (.slice (some ⟨bA,off,none⟩) n c) (by kernel_rfl) rfl rfl (λ_ _ _ h=>h) rfl (y_load rfl rfl (λw' q=>by obtain⟨u,v,q⟩:=q;exact run_load23s ((q.b.cell 0).trans rfl))) ⟨_,_,hS⟩ ?_
  simp only[ap]
  refine hpu 3 (.int .i64 (d:Int)) (by kernel_rfl) rfl rfl (λ_ _ _ h=>h) rfl (y_move rfl rfl) ⟨_,_,hS⟩ ?_
  simp only[ap]
  refine hpu 4 (.pointer (some ⟨bA,off+d*5,none⟩)) (by kernel_rfl) rfl rfl (λ_ _ _ h=>h) rfl (y_index rfl rfl rfl (Tr.run_idx (t:=22) (e:=50) (sz:=5) (by kernel_rfl) (by kernel_rfl) (by kernel_rfl) bA off n c d hdn)) ⟨_,_,hS⟩ ?_
  simp only[ap]
  refine hpu 5 (.pointer (some ⟨bA,off+d*5+1,none⟩)) (by kernel_rfl) rfl rfl (λ_ _ _ h=>h) rfl (y_field rfl rfl (run_field37_1g _ _)) ⟨_,_,hS⟩ ?_
  simp only[ap]
  refine hpu 6 (.int .i64 dn) (by kernel_rfl) rfl rfl (λ_ _ _ h=>h) rfl (y_load rfl rfl (λw' q=>by obtain⟨u,v,q⟩:=q;exact run_load3s ((q.lo.cell (p:=⟨bA,off+d*5+1,none⟩) ut).trans u1))) ⟨_,_,hS⟩ ?_
  simp only[ap]
  refine hpu 7 (.bool (decide (dn=4))) (by kernel_rfl) rfl rfl (λ_ _ _ h=>h) rfl (y_bin rfl rfl rfl (λ_=>by kernel_rfl) (λw'=>by show _=Result.ok (Value.bool (dn==4)) w';simp[go_sem])) ⟨_,_,hS⟩ ?_
  simp only[ap]
  refine h_callx 0 ({ dst:=some 22,op:=Op.call { callee:=Callee.value (Operand.func 258),args := #[],argTypes := #[] },type:=194,pos := "faults.go:114",after := #[],guard:=none }:Oper) (args := #[]) own153 rfl rfl (by kernel_rfl) rfl rfl (HP W5) ?_
  rintro e W4 ⟨VK,vc,rfl,hI4,hb4,hfr⟩
  have hS4:=hS.below hb4
  refine .inr ⟨_,rfl,⟨_,_,hS4⟩,?_⟩
  simp only[Act.put,List.setIfInBounds_toArray,List.set_cons_zero,List.set_cons_succ]
  refine h_one 8 ({ dst:=none,op:=Op.store 194 (Operand.tmp 4) (Operand.tmp 22),type:=0,pos := "faults.go:114",after := #[{ on:=0,ground:=Ground.data },{ on:=0,ground:=Ground.chain },{ on:=0,ground:=Ground.phase },{ on:=1,ground:=Ground.textOnly Departure.lateStores },{ on:=2,ground:=Ground.textOnly Departure.lateStores },{ on:=3,ground:=Ground.textOnly Departure.lateStores },{ on:=4,ground:=Ground.textOnly Departure.lateStores },{ on:=5,ground:=Ground.textOnly Departure.lateStores },{ on:=6,ground:=Ground.textOnly Departure.lateStores },{ on:=7,ground:=Ground.textOnly Departure.lateStores }],guard:=none }:Oper) rfl (by kernel_rfl) rfl ?_
  have hS9:=hS4.put (.slice VK 1 vc) (.int .i64 1)
  refine store139_wp rfl rfl rfl hS4.s ⟨⟨_,_,hS9⟩,?_⟩
  simp only[Act.put]
  have hI9:Ints ((W4.setCell ⟨w.heap.size+1,0,none⟩ (.slice VK 1 vc)).setCell ⟨w.heap.size+1,1,none⟩ (.int .i64 1)) VK [1]:=λh0=>by
   obtain⟨b,off',rfl,hl,hc⟩:=hI4 h0
   have h9:=hfr _ rfl
   have h8:=hS.sz
   have hne:b≠w.heap.size+1:=by have:W5.heap.size<=b:=h9;omega
   exact⟨b,off',rfl,by rw[World.size_setCell,World.size_setCell];exact hl,λj hj=>by rw[cell_far2 hne hne];exact hc j hj⟩
  clear hI4 hb4 hfr
  refine hpu 9 (.bool (decide (dn=4))) (by kernel_rfl) rfl rfl (λ_ _ _ h=>h) rfl (y_assign rfl rfl) ⟨_,_,hS9⟩ ?_
  simp only[ap]
  refine wpAnyH_done (by kernel_rfl) ?_ _
  have HH:=hid (And.intro hS9 hI9)
  clear hS hS4 hS9 hI9
  generalize (W4.setCell ⟨w.heap.size+1,0,none⟩ (.slice VK 1 vc)).setCell ⟨w.heap.size+1,1,none⟩ (.int .i64 1)=WE at *
  have z0:=(HH.out.1.s.cell 0).trans rfl
  have z1:=(HH.out.1.s.cell 1).trans rfl
  go_wp2
  refine bodyPost_ret (v :=.tuple #[.agg #[.slice VK 1 vc,.int .i64 1],.bool (decide (dn=4))]) (by simp[results,Tryz.f260,go_sem,z0,z1]) rfl ?_
  exact⟨VK,vc,rfl,HH.out.2,HH.out.1.lo⟩
end
end Go.Proofs.YtedkgofehbecmaaGreatDoor
namespace Go.Proofs.YtedkgofehbecmaaGreatDoor
open Go.Lib (hid)
open Go Go.RowKit Go.Sort
open Tr (Bx heap1 bt Nds Ints VPost BPost)
theorem y_not {S:World->Prop}{a:Act}{o:Oper}{x:Operand}{b:Bool}(ho:o.op = .unOp .not 4 x)(hx:a.eval x = .bool b):∀w,S w->(execOp a.eval o).run Tryz.prog w = .ok (.value (.bool (!b))) w:=λw _=>by unfold execOp;simp only[ho,hx];simp[go_sem]
theorem own257:Own 261:=⟨_,Tryz.func261,by kernel_rfl,by kernel_rfl⟩
theorem own137:Own 223:=⟨_,Tryz.func223,by kernel_rfl,by kernel_rfl⟩
theorem run_field37_4b (b:Nat)(w:World):(Instr.fieldAt 50 (.pointer (some ⟨b,0,none⟩)) 4).run Tryz.prog w = .ok (.pointer (some ⟨b,4,none⟩)) w:=by kernel_rfl
theorem run_load35b {w:World}{b i n c:Nat}{A:Option Addr}(h:w.cell? ⟨b,i,none⟩=some (.slice A n c)):(Instr.loadAt 28 (.pointer (some ⟨b,i,none⟩))).run Tryz.prog w = .ok (.slice A n c) w:=by simp[go_sem,h]
section
variable {w:World} {l:List Tr.Nd} {A O:Option Addr} {n bd bp:Nat}
set_option maxRecDepth 100000 in
set_option maxHeartbeats 1500000 in
theorem fitsCall_any (h:Prg w l A n O bd bp)(hcp:Caps w A l)(c co p k:Nat)(hp:p<n)(hkd:(ndA l p).kd=13)(ks:List Int)(hks:(ndA l p).ks=(k:Int) :: ks)(hk:k<n)(hun:dnA l p (calN l p)≠none\/prF l (calN l p) 0≠none):Calls Tryz.prog 221 #[PrV A n c O co bd bp,.int .i64 (p:Int)] w (BPost (fitC l p) w):=by
 unfold PrV
 have xl:p<l.length:=by rw[<- h.len];exact hp
 have xz:(p:Int)<(n:Int):=by omega
 obtain⟨bA,off,K,cK,rfl,xt,x0,x1,x2,x3,x4,xI⟩:=node_at h.nds (Below.refl _ w) p xl
 rw[<- ndA_eq xl]at x0 x1 x2 x3 x4 xI
 have hb0:=heap1 w (.cells #[.slice (some ⟨bA,off,none⟩) n c,.slice O n co,.map (some bd),.map (some bp)] 87)
 obtain⟨bk,ok,rfl,hbk,hck⟩:=xI (by rw[hks];simp)
 have hb1:=bt hb0 (heap1 (w.alloc (.cells #[.slice (some ⟨bA,off,none⟩) n c,.slice O n co,.map (some bd),.map (some bp)] 87)) (.cells #[.int .i64 (ndA l p).kd,.int .i64 (ndA l p).n,.int .i64 (ndA l p).pl,.string (ndA l p).tx,.slice (some ⟨bk,ok,none⟩) (ndA l p).ks.length cK] 50))
 have HC:=hid (callee_any (h.below hb1) c co p k hp ks hks hk hun)
 have HV:=hid (λW (hb:Below w.heap.size w W)=>variable_any (h.below hb) c co p hp)
 have hkr:=h.kr hp
 rw[hks]at hkr
 have hkm:=h.kl hp
 have HT:=hid (λW (hb:Below w.heap.size w W) K m cK (hK:Ints W K ks) (hm:m=ks.length)=>typesOf_any (h.below hb) c co K m cK ks hK hm (λx hx=>hkr x (List.mem_cons_of_mem _ hx)) (by rw[hks,List.length_cons]at hkm;omega))
 have hcc:(ndA l p).ks.length=ks.length+1:=by rw[hks];rfl
 have hcx:=hcp p bA off _ _ cK xl rfl x4 hkd
 have htl:(ndA l p).ks.tail=ks:=by rw[hks];rfl
 have hKI:∀j (hj:j<ks.length),w.cell? ⟨bk,ok+(j+1),none⟩=some (.int .i64 ks[j]):=λj hj=>by
  have:=hck (j+1) (by rw[hks,List.length_cons];omega)
  rw[this]
  simp only[hks,List.getElem_cons_succ]
 unfold PrV at HC HV HT
 unfold fitC
 rw[htl]
 have e0:=(hb0.cell (p:=⟨bA,off+p*5,none⟩) xt).trans x0
 have e1:=(hb0.cell (p:=⟨bA,off+p*5+1,none⟩) xt).trans x1
 have e2:=(hb0.cell (p:=⟨bA,off+p*5+2,none⟩) xt).trans x2
 have e3:=(hb0.cell (p:=⟨bA,off+p*5+3,none⟩) xt).trans x3
 have e4:=(hb0.cell (p:=⟨bA,off+p*5+4,none⟩) xt).trans x4
 have hB1:Bx ((w.alloc (.cells #[.slice (some ⟨bA,off,none⟩) n c,.slice O n co,.map (some bd),.map (some bp)] 87)).alloc (.cells #[.int .i64 (ndA l p).kd,.int .i64 (ndA l p).n,.int .i64 (ndA l p).pl,.string (ndA l p).tx,.slice (some ⟨bk,ok,none⟩) (ndA l p).ks.length cK] 50)) w.heap.size 87 [.slice (some ⟨bA,off,none⟩) n c,.slice O n co,.map (some bd),.map (some bp)]/\Bx ((w.alloc (.cells #[.slice (some ⟨bA,off,none⟩) n c,.slice O n co,.map (some bd),.map (some bp)] 87)).alloc (.cells #[.int .i64 (ndA l p).kd,.int .i64 (ndA l p).n,.int .i64 (ndA l p).pl,.string (ndA l p).tx,.slice (some ⟨bk,ok,none⟩) (ndA l p).ks.length cK] 50)) (w.heap.size+1) 50 [.int .i64 (ndA l p).kd,.int .i64 (ndA l p).n,.int .i64 (ndA l p).pl,.string (ndA l p).tx,.slice (some ⟨bk,ok,none⟩) (ndA l p).ks.length cK]:=by
  have k2:=Bx.new (w.alloc (.cells #[.slice (some ⟨bA,off,none⟩) n c,.slice O n co,.map (some bd),.map (some bp)] 87)) 50 [.int .i64 (ndA l p).kd,.int .i64 (ndA l p).n,.int .i64 (ndA l p).pl,.string (ndA l p).tx,.slice (some ⟨bk,ok,none⟩) (ndA l p).ks.length cK]
  rw[World.size_alloc]at k2
  exact⟨(Bx.new w 87 _).alloc _,k2⟩
 have HYL:=hid (show∀my:Nat,my=(ks.map λk=>typA l k.toNat).length->my<=100000 from λmy e=>by rw[e,List.length_map];rw[hks,List.length_cons]at hkm;omega)
 clear hks hkm
 clear h hk hun hkr htl hb0 hck xI x0 x1 x2 x3 x4 hp hcp xl
 generalize (ndA l (p:Int)).ks.length=m at *
 generalize (ndA l (p:Int)).tx=tx at *
 generalize (ndA l (p:Int)).kd=kd at *
 generalize (ndA l (p:Int)).n=nn at *
 generalize (ndA l (p:Int)).pl=pl at *
 generalize (calS l p).1.1=xs at *
 generalize (calS l p).1.2=rs at *
 generalize (calS l p).2=okb at *
 generalize vrT l p=vt at *
 generalize (ks.map λk=>typA l k.toNat)=ys at *
 have HB1:=hid (And.intro hb1 hB1)
 have HM:=hid (And.intro hcc (And.intro (hcx) (And.intro hbk hKI)))
 clear hb1 hB1 hcc hcx hKI hkd
 obtain⟨R,hR⟩:∃R,R=(okb&&(decide (ys=xs)&&(decide (tx=⟨#[]⟩) || decide (vt=rs)))):=⟨_,rfl⟩
 rw[<- hR]
 have HR:=hid hR
 clear hR
 go_enter Tryz.func221,Tryz.ntmps221
 go_wp2_with (go_at_call 260;refine HC.out.mono ?_)
 rintro e w2 ⟨VK,vc,rfl,hI2,hb2⟩
 obtain⟨mx,hmx⟩:∃mx,mx=xs.length:=⟨_,rfl⟩
 rw[<- hmx]
 have hB3:=((HB1.out.2.1.below hb2 HB1.out.2.1.lt).alloc (.cells #[.slice VK mx vc,.int .i64 rs] 194))
 have hN3:=((HB1.out.2.2.below hb2 HB1.out.2.2.lt).alloc (.cells #[.slice VK mx vc,.int .i64 rs] 194))
 have hS3:=Bx.new w2 194 [.slice VK mx vc,.int .i64 rs]
 have hb3:=bt (bt HB1.out.1 hb2) (heap1 w2 (.cells #[.slice VK mx vc,.int .i64 rs] 194))
 have hI3:=hI2.below (heap1 w2 (.cells #[.slice VK mx vc,.int .i64 rs] 194))
 have H3:=hid (And.intro hB3 (And.intro hN3 (And.intro hS3 (And.intro hb3 (And.intro hI3 hmx)))))
 clear hI2 hb2 hmx hB3 hN3 hS3 hb3 hI3
 cases okb with
 |false=>
  go_upto_region 3 with(fail)
  go_quiet (fail)
  go_wp2
  go_ret
  exact⟨congrArg (λz=>Ending.returned (Value.bool z)) (show false=R by rw[HR.out];rfl),Tk.below_drewN H3.out.2.2.2.1 _⟩
 |true=>
  obtain⟨yx,hyx⟩:∃yx,yx=decide (ys=xs):=⟨_,rfl⟩
  have HYX:=hid hyx
  clear hyx
  go_upto_region 3 with(fail)
  refine wp_region_held (S:=λw'=>Below ({ w2.alloc (.cells #[.slice VK mx vc,.int .i64 rs] 194)with drawn:=(w2.alloc (.cells #[.slice VK mx vc,.int .i64 rs] 194)).drawn+1 }:World).heap.size ({ w2.alloc (.cells #[.slice VK mx vc,.int .i64 rs] 194)with drawn:=(w2.alloc (.cells #[.slice VK mx vc,.int .i64 rs] 194)).drawn+1 }:World) w') (by kernel_rfl) ?_
  have hB5:Bx ({ w2.alloc (.cells #[.slice VK mx vc,.int .i64 rs] 194)with drawn:=(w2.alloc (.cells #[.slice VK mx vc,.int .i64 rs] 194)).drawn+1 }:World) w.heap.size 87 [.slice (some ⟨bA,off,none⟩) n c,.slice O n co,.map (some bd),.map (some bp)]:=H3.out.1
  have hN5:Bx ({ w2.alloc (.cells #[.slice VK mx vc,.int .i64 rs] 194)with drawn:=(w2.alloc (.cells #[.slice VK mx vc,.int .i64 rs] 194)).drawn+1 }:World) (w.heap.size+1) 50 [.int .i64 kd,.int .i64 nn,.int .i64 pl,.string tx,.slice (some ⟨bk,ok,none⟩) m cK]:=H3.out.2.1
  have hS5:Bx ({ w2.alloc (.cells #[.slice VK mx vc,.int .i64 rs] 194)with drawn:=(w2.alloc (.cells #[.slice VK mx vc,.int .i64 rs] 194)).drawn+1 }:World) w2.heap.size 194 [.slice VK mx vc,.int .i64 rs]:=H3.out.2.2.1
  have hb5:Below w.heap.size w ({ w2.alloc (.cells #[.slice VK mx vc,.int .i64 rs] 194)with drawn:=(w2.alloc (.cells #[.slice VK mx vc,.int .i64 rs] 194)).drawn+1 }:World):=bdrew H3.out.2.2.2.1
  have hI5:Ints ({ w2.alloc (.cells #[.slice VK mx vc,.int .i64 rs] 194)with drawn:=(w2.alloc (.cells #[.slice VK mx vc,.int .i64 rs] 194)).drawn+1 }:World) VK xs:=H3.out.2.2.2.2.1
  have hmx:=H3.out.2.2.2.2.2
  generalize ({ w2.alloc (.cells #[.slice VK mx vc,.int .i64 rs] 194)with drawn:=(w2.alloc (.cells #[.slice VK mx vc,.int .i64 rs] 194)).drawn+1 }:World)=W5 at *
  have hS:=Below.refl W5.heap.size W5
  obtain⟨ok2,hok2⟩:∃ok2,(if cK=1 then ok else ok+1)=ok2:=⟨_,rfl⟩
  have hKs:Ints W5 (some ⟨bk,ok2,none⟩) ks:=λh0=>⟨bk,_,rfl,Nat.lt_of_lt_of_le HM.out.2.2.1 hb5.size,λj hj=>by
   have h2:cK≠1:=HM.out.2.1 (by have:=HM.out.1;omega)
   rw[if_neg h2]at hok2
   rw[<- hok2,show ok+1+j=ok+(j+1)by omega]
   exact(hb5.cell (p:=⟨bk,ok+(j+1),none⟩) HM.out.2.2.1).trans (HM.out.2.2.2 j hj)⟩
  have h1m:1<=m:=by have:=HM.out.1;omega
  have hmk:m-1=ks.length:=by have:=HM.out.1;omega
  refine hpu 0 (.bool true) (by kernel_rfl) rfl rfl (λ_ _ _ h=>h) rfl (y_move rfl rfl) hS ?_
  simp only[ap]
  refine hpu 1 (.bool false) (by kernel_rfl) rfl rfl (λ_ _ _ h=>h) rfl (y_not (b:=true) rfl rfl) hS ?_
  simp only[ap]
  refine hpu 2 (.bool false) (by kernel_rfl) rfl rfl (λ_ _ _ h=>h) rfl (y_move rfl rfl) hS ?_
  simp only[ap]
  refine hpu 3 (.agg #[.slice (some ⟨bA,off,none⟩) n c,.slice O n co,.map (some bd),.map (some bp)]) (by kernel_rfl) rfl rfl (λ_ _ _ h=>h) rfl (y_load rfl rfl (λw' q=>run_load83 (hB5.below q hB5.lt))) hS ?_
  simp only[ap]
  refine hpu 4 (.pointer (some ⟨w.heap.size+1,4,none⟩)) (by kernel_rfl) rfl rfl (λ_ _ _ h=>h) rfl (y_field rfl rfl (run_field37_4b _)) hS ?_
  simp only[ap]
  refine hpu 5 (.slice (some ⟨bk,ok,none⟩) m cK) (by kernel_rfl) rfl rfl (λ_ _ _ h=>h) rfl (y_load rfl rfl (λw' q=>run_load35b (((hN5.below q hN5.lt).cell 4).trans rfl))) hS ?_
  simp only[ap]
  refine hpu 6 (.slice (some ⟨bk,ok2,none⟩) (m-1) (cK-1)) (by kernel_rfl) rfl rfl (λ_ _ _ h=>h) rfl (y_slice1 rfl rfl (λw'=>by have q:=run_slice35 bk ok m cK h1m w';rw[hok2]at q;exact q)) hS ?_
  simp only[ap]
  refine hpu 8 (.pointer (some ⟨w2.heap.size,0,none⟩)) (by kernel_rfl) rfl rfl (λ_ _ _ h=>h) rfl (y_field rfl rfl (run_field139_0 _)) hS ?_
  simp only[ap]
  refine hpu 9 (.slice VK mx vc) (by kernel_rfl) rfl rfl (λ_ _ _ h=>h) rfl (y_load rfl rfl (λw' q=>run_load139s (((hS5.below q hS5.lt).cell 0).trans rfl))) hS ?_
  simp only[ap]
  refine h_callx 7 ({ dst:=some 26,op:=Op.call { callee:=Callee.value (Operand.func 261),args := #[Operand.tmp 22,Operand.tmp 25],argTypes := #[87,28] },type:=28,pos := "faults.go:121",after := #[{ on:=3,ground:=Ground.data },{ on:=6,ground:=Ground.data },{ on:=2,ground:=Ground.chain },{ on:=2,ground:=Ground.guard }],guard:=some (2,false) }:Oper) (args := #[.agg #[.slice (some ⟨bA,off,none⟩) n c,.slice O n co,.map (some bd),.map (some bp)],.slice (some ⟨bk,ok2,none⟩) (m-1) (cK-1)]) own257 rfl rfl (by kernel_rfl) rfl rfl (HT.out W5 hb5 _ _ _ hKs hmk) ?_
  rintro e w6 ⟨YK,yc,rfl,hI6,hb6⟩
  refine .inr ⟨_,rfl,hb6,?_⟩
  simp only[Act.put,List.setIfInBounds_toArray,List.set_cons_zero,List.set_cons_succ]
  obtain⟨my,hmy⟩:∃my,my=ys.length:=⟨_,rfl⟩
  rw[<- hmy]
  refine h_callx 10 ({ dst:=some 29,op:=Op.call { callee:=Callee.value (Operand.func 223),args := #[Operand.tmp 26,Operand.tmp 28],argTypes := #[28,28] },type:=4,pos := "faults.go:121",after := #[{ on:=7,ground:=Ground.data },{ on:=9,ground:=Ground.data },{ on:=7,ground:=Ground.chain },{ on:=2,ground:=Ground.guard }],guard:=some (2,false) }:Oper) (args := #[.slice YK my yc,.slice VK mx vc]) own137 rfl rfl (by kernel_rfl) rfl rfl (by have q:=ints_eq YK VK my mx yc vc ys xs w6 hI6 (hI5.below hb6) hmy hmx (by rw[hmy];exact HYL.out _ rfl);rw[<- HYX.out]at q;exact q) ?_
  rintro e w7 ⟨rfl,hb7⟩
  have hS:=bt hb6 hb7
  refine .inr ⟨_,rfl,hS,?_⟩
  simp only[Act.put,List.setIfInBounds_toArray,List.set_cons_zero,List.set_cons_succ]
  refine hpu 11 (.bool (!yx)) (by kernel_rfl) rfl rfl (λ_ _ _ h=>h) rfl (y_not (b:=yx) rfl rfl) hS ?_
  simp only[ap]
  refine hpu 12 (.bool (!yx)) (by kernel_rfl) rfl rfl (λ_ _ _ h=>h) rfl (y_pickF rfl rfl rfl) hS ?_
  simp only[ap]
  refine wpAnyH_done (by kernel_rfl) ?_ _
  have H7:=hid (And.intro (hB5.below hS hB5.lt) (And.intro (hN5.below hS hN5.lt) (And.intro (hS5.below hS hS5.lt) (bt hb5 hS))))
  clear hok2 hB5 hN5 hS5 hb5 hI5 hmx hKs hI6 hb6 hb7 hS hmk h1m hmy
  cases yx with
  |false=>
   go_wp2
   go_ret
   exact⟨congrArg (λz=>Ending.returned (Value.bool z)) (show false=R by rw[HR.out,<- HYX.out];rfl),H7.out.2.2.2⟩
  |true=>
   have n3:=(H7.out.2.1.cell 3).trans rfl
   by_cases htx:tx=⟨#[]⟩
   ·subst htx
    go_upto_region 5 with(fail)
    go_quiet (fail)
    go_wp2
    go_ret
    exact⟨congrArg (λz=>Ending.returned (Value.bool z)) (show true=R by rw[HR.out,<- HYX.out];simp),Tk.below_drewN H7.out.2.2.2 _⟩
   ·have hte:(tx.toList==[])=false:=lst_ne htx
    have HVR:=hid (show(vt==rs)=R by rw[HR.out,<- HYX.out,decide_eq_false htx,Bool.eq_iff_iff];simp)
    have c0:=(H7.out.1.cell 0).trans rfl
    have c1:=(H7.out.1.cell 1).trans rfl
    have c2:=(H7.out.1.cell 2).trans rfl
    have c3:=(H7.out.1.cell 3).trans rfl
    have s1:=(H7.out.2.2.1.cell 1).trans rfl
    have m3:=cell_regrown n3
    have d0:=cell_regrown c0
    have d1:=cell_regrown c1
    have d2:=cell_regrown c2
    have d3:=cell_regrown c3
    have t1:=cell_regrown s1
    have cq:∀d os,Calls Tryz.prog 216 #[.agg #[.slice (some ⟨bA,off,none⟩) n c,.slice O n co,.map (some bd),.map (some bp)],.int .i64 (p:Int)] (grow (redrawn w7 d) os) λe w''=>e = .returned (.int .i64 vt)/\∃p:Regrown,w''=grow (redrawn w7 p.d) p.os:=λd os=>Calls.regrown_of (HV.out _ (bt H7.out.2.2.2 (below_regrown w7 d os)))
    clear htx n3 c0 c1 c2 c3 s1
    go_wp2
    refine wp_region_quiet_below (by kernel_rfl) (by kernel_rfl) ?_
    repeat (go_big_quiet_step (first|exact cq _ _))
    refine wpQuiet_nil ?_
    intro _ hw'
    obtain⟨⟨dq,osq⟩,hw''⟩:=hw'
    subst hw''
    have hbq:=below_regrown w7 dq osq
    generalize grow (redrawn w7 dq) osq=w8 at *
    have HBQ:=hid (bt H7.out.2.2.2 hbq)
    clear cq hbq
    go_wp2
    go_ret
    exact⟨congrArg (λz=>Ending.returned (Value.bool z)) HVR.out,HBQ.out⟩
end
end Go.Proofs.YtedkgofehbecmaaGreatDoor
namespace Go.Proofs.YtedkgofehbecmaaGreatDoor
open Go.Lib (hid)
open Go Go.RowKit Go.Sort
open Tr (Bx heap1 bt Nds Ints VPost BPost)
theorem optZ_none (o:Option Nat):(optZ o == -1)=o.isNone:=by
 cases o with
 |none=>rfl
 |some q=>show((q:Int) == -1)=false;exact beq_eq_false_iff_ne.2 (by omega)
theorem prF_self {l:List Tr.Nd}{p:Nat}(hp:p<l.length)(h:(ndA l p).kd=3):∃q,prF l (ndA l p).tx 0=some q:=by
 obtain⟨r,h1,_⟩:=fstA_mem (P:=prB l (ndA l p).tx) (p:=0) (Nat.zero_le p) hp (by unfold prB;simp[h])
 exact⟨r,h1⟩
theorem dcF_self {l:List Tr.Nd}{p:Nat}(hp:p<l.length)(h:decB (ndA l p).kd=true):∃q,dcF l (owA l p) (ndA l p).tx 0=some q:=by
 obtain⟨r,h1,_⟩:=fstA_mem (P:=dcB l (owA l p) (ndA l p).tx) (p:=0) (Nat.zero_le p) hp (by unfold dcB;simp[h])
 exact⟨r,h1⟩
theorem neq_some {q p:Nat}:(!decide (some q=some p))=((q:Int) != (p:Int)):=by
 rw[Bool.eq_iff_iff];simp;omega
section
variable {w:World} {l:List Tr.Nd} {A O:Option Addr} {n bd bp:Nat}
set_option maxRecDepth 100000 in
set_option maxHeartbeats 1500000 in
theorem fitsReturn_any (h:Prg w l A n O bd bp)(c co p m:Nat)(hp:p<n)(how:owA l p=(m:Int))(hm:m<n):Calls Tryz.prog 222 #[PrV A n c O co bd bp,.int .i64 (p:Int)] w (BPost (fitR l p) w):=by
 unfold PrV
 have hb0:=heap1 w (.cells #[.slice A n c,.slice O n co,.map (some bd),.map (some bp)] 87)
 have xl:p<l.length:=by rw[<- h.len];exact hp
 have xz:(p:Int)<(n:Int):=by omega
 obtain⟨bA,off,K,cK,rfl,xt,x0,x1,x2,x3,x4,xI⟩:=node_at h.nds hb0 p xl
 rw[<- ndA_eq xl]at x0 x1 x2 x3 x4 xI
 have ul:m<l.length:=by rw[<- h.len];exact hm
 have uz:(m:Int)<(n:Int):=by omega
 obtain⟨bBu,offu,K2,cK2,eu,ut,u0,u1,u2,u3,u4,uI⟩:=node_at h.nds hb0 m ul
 cases eu
 rw[<- ndA_eq ul]at u0 u1 u2 u3 u4 uI
 obtain⟨bO,oO,rfl,hOl,hOc⟩:=h.owner_at hb0 hp
 rw[how]at hOc
 have hkr:=h.kr hp
 obtain⟨W0,hW0⟩:∃W0,w.alloc (.cells #[.slice (some ⟨bA,off,none⟩) n c,.slice (some ⟨bO,oO,none⟩) n co,.map (some bd),.map (some bp)] 87)=W0:=⟨_,rfl⟩
 have hX:=Bx.new w 87 [.slice (some ⟨bA,off,none⟩) n c,.slice (some ⟨bO,oO,none⟩) n co,.map (some bd),.map (some bp)]
 rw[hW0]at hb0 hX hOl hOc x0 x1 x2 x3 x4 xt u0 u1 u2 u3 u4 ut
 have HT:=hid (λW (hb:Below W0.heap.size W0 W) (k:Nat) (hk:k<n)=>typeE_any (h.below (bt hb0 hb)) c co k hk)
 have hKI:∀(h0:0<(ndA l p).ks.length),∃b o,K=some ⟨b,o,none⟩/\b<W0.heap.size/\W0.cell? ⟨b,o,none⟩=some (.int .i64 (ndA l p).ks[0]):=λh0=>by
  obtain⟨b,o,e,hb,hc⟩:=xI h0
  have:=(hb0.cell (p:=⟨b,o,none⟩) hb).trans (hc 0 h0)
  exact⟨b,o,e,Nat.lt_of_lt_of_le hb hb0.size,this⟩
 obtain⟨R,hR⟩:∃R,R=fitR l p:=⟨_,rfl⟩
 unfold fitR at hR
 rw[how]at hR
 rw[show fitR l p=R by rw[hR];unfold fitR;rw[how]]
 unfold PrV at HT
 have HB0:=hid hb0
 have HX:=hid hX
 have b0:=(hX.cell 0).trans rfl
 have b1:=(hX.cell 1).trans rfl
 have b2:=(hX.cell 2).trans rfl
 have b3:=(hX.cell 3).trans rfl
 have d0:=cell_regrown b0
 have d1:=cell_regrown b1
 have d2:=cell_regrown b2
 have d3:=cell_regrown b3
 have e4:=cell_regrown u1
 have e5:=cell_regrown hOc
 have HXT:=hid (And.intro xt x4)
 clear h how hb0 xI u0 u1 u2 u3 u4 x0 x1 x2 x3 x4 uI b0 b1 b2 b3 hOc hX
 generalize (ndA l (m:Int)).n=rn at *
 by_cases h0:(ndA l p).ks=[]
 ·have hR2:=hid (show(rn==0)=R by rw[hR,if_pos (Or.inl h0),h0];simp[Bool.beq_eq_decide_eq])
  have hm0:=z_eq0 (show(ndA l p).ks.length=0 by rw[h0];rfl)
  clear hR h0 hKI hkr HT
  generalize (ndA l (p:Int)).ks.length=mk at *
  go_enter Tryz.func222,Tryz.ntmps222
  go_wp2
  refine wp_region_quiet_below (by kernel_rfl) (by kernel_rfl) ?_
  repeat (go_big_quiet_step (first|fail))
  refine wpQuiet_nil ?_
  intro _ hw'
  obtain⟨⟨dq,osq⟩,hw''⟩:=hw'
  subst hw''
  have hbq:=below_regrown W0 dq osq
  generalize grow (redrawn W0 dq) osq=w1 at *
  have hX1:=HX.out.below hbq HX.out.lt
  have c0:=(hX1.cell 0).trans rfl
  have c1:=(hX1.cell 1).trans rfl
  have c2:=(hX1.cell 2).trans rfl
  have c3:=(hX1.cell 3).trans rfl
  have z4:=(hbq.cell (p:=⟨bA,off+p*5+4,none⟩) HXT.out.1).trans HXT.out.2
  have HQ:=hid hbq
  clear hX1 hbq
  go_wp2
  go_ret
  exact⟨congrArg (λz=>Ending.returned (Value.bool z)) hR2.out,bt HB0.out HQ.out⟩
 ·have hl0:0<(ndA l p).ks.length:=List.length_pos_iff.2 h0
  have hm0:=z_ne0 (show(ndA l p).ks.length≠0 by omega)
  by_cases hrn:rn=0
  ·subst hrn
   have hR2:=hid (show false=R by rw[hR,if_pos (Or.inr rfl)];simp[h0])
   clear hR h0 hKI hkr HT hl0
   generalize (ndA l (p:Int)).ks.length=mk at *
   go_enter Tryz.func222,Tryz.ntmps222
   go_wp2
   refine wp_region_quiet_below (by kernel_rfl) (by kernel_rfl) ?_
   repeat (go_big_quiet_step (first|fail))
   refine wpQuiet_nil ?_
   intro _ hw'
   obtain⟨⟨dq,osq⟩,hw''⟩:=hw'
   subst hw''
   have hbq:=below_regrown W0 dq osq
   generalize grow (redrawn W0 dq) osq=w1 at *
   have hX1:=HX.out.below hbq HX.out.lt
   have c0:=(hX1.cell 0).trans rfl
   have c1:=(hX1.cell 1).trans rfl
   have c2:=(hX1.cell 2).trans rfl
   have c3:=(hX1.cell 3).trans rfl
   have z4:=(hbq.cell (p:=⟨bA,off+p*5+4,none⟩) HXT.out.1).trans HXT.out.2
   have HQ:=hid hbq
   clear hX1 hbq
   go_wp2
   go_ret
   exact⟨congrArg (λz=>Ending.returned (Value.bool z)) hR2.out,bt HB0.out HQ.out⟩
  ·obtain⟨bk,ok,rfl,hbk,hck⟩:=hKI hl0
   obtain⟨hk0,hk1⟩:=hkr _ (List.getElem_mem hl0)
   obtain⟨k,hk⟩:∃k:Nat,(ndA l p).ks[0]=(k:Int):=⟨((ndA l p).ks[0]).toNat,by omega⟩
   rw[hk]at hck hk1
   have hkn:k<n:=by omega
   have hty:typA l (kidA l p 0).toNat=typA l k:=by
    have e:kidA l p 0=(k:Int):=by
     unfold kidA;rw[<- hk,List.getD_eq_getElem?_getD,List.getElem?_eq_getElem hl0];rfl
    rw[e];rfl
   have hR2:=hid (show(typA l k==rn)=R by rw[hR,if_neg (by simp[h0,hrn]),hty];rfl)
   have hrz:(rn==0)=false:=beq_eq_false_iff_ne.2 hrn
   have hmz:(0:Int)<(((ndA l p).ks.length:Nat):Int):=by omega
   have HCK:=hid (And.intro hbk hck)
   have HTK:=hid (λW (hb:Below W0.heap.size W0 W)=>HT.out W hb k hkn)
   clear hR h0 hKI hkr HT hk hk0 hk1 hty hkn hbk hck hl0
   generalize typA l k=ty at *
   generalize (ndA l (p:Int)).ks.length=mk at *
   go_enter Tryz.func222,Tryz.ntmps222
   go_wp2
   refine wp_region_quiet_below (by kernel_rfl) (by kernel_rfl) ?_
   repeat (go_big_quiet_step (first|fail))
   refine wpQuiet_nil ?_
   intro _ hw'
   obtain⟨⟨dq,osq⟩,hw''⟩:=hw'
   subst hw''
   have hbq:=below_regrown W0 dq osq
   generalize grow (redrawn W0 dq) osq=w1 at *
   have hX1:=HX.out.below hbq HX.out.lt
   have c0:=(hX1.cell 0).trans rfl
   have c1:=(hX1.cell 1).trans rfl
   have c2:=(hX1.cell 2).trans rfl
   have c3:=(hX1.cell 3).trans rfl
   have z4:=(hbq.cell (p:=⟨bA,off+p*5+4,none⟩) HXT.out.1).trans HXT.out.2
   have HQ:=hid hbq
   clear hX1 hbq
   go_wp2
   have y4:=(HQ.out.cell (p:=⟨bk,ok,none⟩) HCK.out.1).trans HCK.out.2
   have k0:=cell_regrown y4
   have g0:=cell_regrown c0
   have g1:=cell_regrown c1
   have g2:=cell_regrown c2
   have g3:=cell_regrown c3
   have cq:∀d os,Calls Tryz.prog 220 #[.agg #[.slice (some ⟨bA,off,none⟩) n c,.slice (some ⟨bO,oO,none⟩) n co,.map (some bd),.map (some bp)],.int .i64 (k:Int)] (grow (redrawn w1 d) os) λe w''=>e = .returned (.int .i64 ty)/\∃p:Regrown,w''=grow (redrawn w1 p.d) p.os:=λd os=>Calls.regrown_of (HTK.out _ (bt HQ.out (below_regrown w1 d os)))
   clear y4 c0 c1 c2 c3 z4
   refine wp_region_quiet_below (by kernel_rfl) (by kernel_rfl) ?_
   repeat (go_big_quiet_step (first|exact cq _ _))
   refine wpQuiet_nil ?_
   intro _ hw'
   obtain⟨⟨dq,osq⟩,hw''⟩:=hw'
   subst hw''
   have hbq:=below_regrown w1 dq osq
   generalize grow (redrawn w1 dq) osq=w2 at *
   have HQ2:=hid (bt HQ.out hbq)
   clear hbq cq
   go_wp2
   go_ret
   exact⟨congrArg (λz=>Ending.returned (Value.bool z)) hR2.out,bt HB0.out HQ2.out⟩
end
end Go.Proofs.YtedkgofehbecmaaGreatDoor
