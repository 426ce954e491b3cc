/- PROVED here: parts Ci Cj of the claim. No condition but those in each theorem's own head. -/
import Derived.Test.YtedkgofehbecmaaGreatDoorN29
import Derived.StillTailTactics
import Derived.Deep.Light
namespace Go.Proofs.YtedkgofehbecmaaGreatDoor
open Go Go.RowKit
open Tr (Bx heap1 bt Nds Ints VPost BPost)
section
variable {w:World} {l:List Tr.Nd} {A O:Option Addr} {n bd bp:Nat}
theorem Prg.kr (h:Prg w l A n O bd bp){p:Nat}(hp:p<n):∀x ∈ (ndA l p).ks,0≤x∧x<(n:Int):=fun x hx=>by
 have hpl:p<l.length:=by rw[← h.len];exact hp
 obtain⟨e1,e2⟩:=h.ahead p hpl x (by rw[← ndA_eq hpl];exact hx)
 omega
theorem Prg.kl (h:Prg w l A n O bd bp){p:Nat}(hp:p<n):(ndA l p).ks.length≤4000:=by
 have hpl:p<l.length:=by rw[← h.len];exact hp
 rw[ndA_eq hpl]
 exact h.kids _ (List.getElem_mem hpl)
theorem Prg.sl (h:Prg w l A n O bd bp){p:Nat}(hp:p<n):(sgP l p).length≤4000:=Nat.le_trans (sgX_len l _) (h.kl hp)
set_option maxRecDepth 100000 in
set_option maxHeartbeats 1500000 in
theorem fitsSign_any (h:Prg w l A n O bd bp)(c co p:Nat)(hp:p<n)(K:Option Addr)(m cK:Nat)(hK:Ints w K (ndA l p).ks)(hm:m=(ndA l p).ks.length):Calls Tryz.prog 219 #[PrV A n c O co bd bp,.agg #[.int .i64 (ndA l p).kd,.int .i64 (ndA l p).n,.int .i64 (ndA l p).pl,.string (ndA l p).tx,.slice K m cK]] w (BPost (fitB l p) w):=by
 unfold PrV
 have hb1:=bt (heap1 w (.cells #[.slice A n c,.slice O n co,.map (some bd),.map (some bp)] 87)) (heap1 (w.alloc (.cells #[.slice A n c,.slice O n co,.map (some bd),.map (some bp)] 87)) (.cells #[.int .i64 (ndA l p).kd,.int .i64 (ndA l p).n,.int .i64 (ndA l p).pl,.string (ndA l p).tx,.slice K m cK] 50))
 have HB1:=Lib.hid hb1
 have HA:=Lib.hid (fun W t (hb:Below ((w.alloc (.cells #[.slice A n c,.slice O n co,.map (some bd),.map (some bp)] 87)).alloc (.cells #[.int .i64 (ndA l p).kd,.int .i64 (ndA l p).n,.int .i64 (ndA l p).pl,.string (ndA l p).tx,.slice K m cK] 50)).heap.size ((w.alloc (.cells #[.slice A n c,.slice O n co,.map (some bd),.map (some bp)] 87)).alloc (.cells #[.int .i64 (ndA l p).kd,.int .i64 (ndA l p).n,.int .i64 (ndA l p).pl,.string (ndA l p).tx,.slice K m cK] 50)) W)=>areAll_any (h.below (bt hb1 hb)) c co K m cK (ndA l p).ks t (hK.below (bt hb1 hb)) hm (h.kr hp) (by rw[hm];exact h.kl hp))
 have hX1:Bx ((w.alloc (.cells #[.slice A n c,.slice O n co,.map (some bd),.map (some bp)] 87)).alloc (.cells #[.int .i64 (ndA l p).kd,.int .i64 (ndA l p).n,.int .i64 (ndA l p).pl,.string (ndA l p).tx,.slice K m cK] 50)) w.heap.size 87 [.slice A n c,.slice O n co,.map (some bd),.map (some bp)]:=(Bx.new w 87 _).alloc _
 have hX2:=Bx.new (w.alloc (.cells #[.slice A n c,.slice O n co,.map (some bd),.map (some bp)] 87)) 50 [.int .i64 (ndA l p).kd,.int .i64 (ndA l p).n,.int .i64 (ndA l p).pl,.string (ndA l p).tx,.slice K m cK]
 rw[World.size_alloc]at hX2
 unfold PrV at HA
 unfold fitB
 clear h hb1 hK hm hp
 generalize (ndA l (p:Int)).ks=ks at *
 generalize (ndA l (p:Int)).tx=tx at *
 generalize (ndA l (p:Int)).kd=k at *
 generalize (ndA l (p:Int)).n=nn at *
 generalize (ndA l (p:Int)).pl=pl at *
 have HX:=Lib.hid (And.intro hX1 hX2)
 clear hX1 hX2
 by_cases e0:tx=⟨#[33]⟩
 ·subst e0
  rw[if_pos (by simp)]
  go_enter Tryz.func219,Tryz.ntmps219
  go_wp2_with (go_at_call 217;refine(HA.out _ 2 (Below.refl _ _)).mono ?_)
  rintro e w2 ⟨rfl,hb2⟩
  have HB2:=Lib.hid (bt HB1.out hb2)
  clear hb2
  go_wp2
  go_ret
  exact⟨rfl,HB2.out⟩
 have q0:(tx.toList==[33])=false:=lst_ne e0
 by_cases e1:tx=⟨#[38,38]⟩
 ·subst e1
  rw[if_pos (by simp)]
  go_enter Tryz.func219,Tryz.ntmps219
  go_wp2_with (go_at_call 217;refine(HA.out _ 2 (Below.refl _ _)).mono ?_)
  rintro e w2 ⟨rfl,hb2⟩
  have HB2:=Lib.hid (bt HB1.out hb2)
  clear hb2
  go_wp2
  go_ret
  exact⟨rfl,HB2.out⟩
 have q1:(tx.toList==[38,38])=false:=lst_ne e1
 by_cases e2:tx=⟨#[124,124]⟩
 ·subst e2
  rw[if_pos (by simp)]
  go_enter Tryz.func219,Tryz.ntmps219
  go_wp2_with (go_at_call 217;refine(HA.out _ 2 (Below.refl _ _)).mono ?_)
  rintro e w2 ⟨rfl,hb2⟩
  have HB2:=Lib.hid (bt HB1.out hb2)
  clear hb2
  go_wp2
  go_ret
  exact⟨rfl,HB2.out⟩
 have q2:(tx.toList==[124,124])=false:=lst_ne e2
 rw[if_neg (by simp[e0,e1,e2])]
 by_cases e3:tx=⟨#[61,61]⟩
 ·subst e3
  rw[if_pos (by simp)]
  cases hA:areB l ks 1 with
  |true=>
   have HA1:=Lib.hid (HA.out _ 1 (Below.refl _ _))
   rw[hA]at HA1
   clear hA
   go_enter Tryz.func219,Tryz.ntmps219
   go_wp2_with (go_at_call 217;refine HA1.out.mono ?_)
   rintro e w2 ⟨rfl,hb2⟩
   have HB2:=Lib.hid (bt HB1.out hb2)
   clear hb2
   go_wp2
   go_ret
   exact⟨rfl,HB2.out⟩
  |false=>
   have HA1:=Lib.hid (HA.out _ 1 (Below.refl _ _))
   rw[hA]at HA1
   clear hA
   go_enter Tryz.func219,Tryz.ntmps219
   go_wp2_with (go_at_call 217;refine HA1.out.mono ?_)
   rintro e w2 ⟨rfl,hb2⟩
   have hB2:=HX.out.1.below hb2 HX.out.1.lt
   have hN2:=HX.out.2.below hb2 HX.out.2.lt
   have c0:=(hB2.cell 0).trans rfl
   have c1:=(hB2.cell 1).trans rfl
   have c2:=(hB2.cell 2).trans rfl
   have c3:=(hB2.cell 3).trans rfl
   have n4:=(hN2.cell 4).trans rfl
   clear hB2 hN2
   have HA2:=Lib.hid (HA.out _ 2 hb2)
   have HB2:=Lib.hid (bt HB1.out hb2)
   clear hb2
   go_wp2_with (go_at_call 217;refine HA2.out.mono ?_)
   rintro e w3 ⟨rfl,hb3⟩
   have HB3:=Lib.hid (bt HB2.out hb3)
   clear hb3
   go_wp2
   go_ret
   exact⟨rfl,HB3.out⟩
 have q3:(tx.toList==[61,61])=false:=lst_ne e3
 by_cases e4:tx=⟨#[33,61]⟩
 ·subst e4
  rw[if_pos (by simp)]
  cases hA:areB l ks 1 with
  |true=>
   have HA1:=Lib.hid (HA.out _ 1 (Below.refl _ _))
   rw[hA]at HA1
   clear hA
   go_enter Tryz.func219,Tryz.ntmps219
   go_wp2_with (go_at_call 217;refine HA1.out.mono ?_)
   rintro e w2 ⟨rfl,hb2⟩
   have HB2:=Lib.hid (bt HB1.out hb2)
   clear hb2
   go_wp2
   go_ret
   exact⟨rfl,HB2.out⟩
  |false=>
   have HA1:=Lib.hid (HA.out _ 1 (Below.refl _ _))
   rw[hA]at HA1
   clear hA
   go_enter Tryz.func219,Tryz.ntmps219
   go_wp2_with (go_at_call 217;refine HA1.out.mono ?_)
   rintro e w2 ⟨rfl,hb2⟩
   have hB2:=HX.out.1.below hb2 HX.out.1.lt
   have hN2:=HX.out.2.below hb2 HX.out.2.lt
   have c0:=(hB2.cell 0).trans rfl
   have c1:=(hB2.cell 1).trans rfl
   have c2:=(hB2.cell 2).trans rfl
   have c3:=(hB2.cell 3).trans rfl
   have n4:=(hN2.cell 4).trans rfl
   clear hB2 hN2
   have HA2:=Lib.hid (HA.out _ 2 hb2)
   have HB2:=Lib.hid (bt HB1.out hb2)
   clear hb2
   go_wp2_with (go_at_call 217;refine HA2.out.mono ?_)
   rintro e w3 ⟨rfl,hb3⟩
   have HB3:=Lib.hid (bt HB2.out hb3)
   clear hb3
   go_wp2
   go_ret
   exact⟨rfl,HB3.out⟩
 have q4:(tx.toList==[33,61])=false:=lst_ne e4
 rw[if_neg (by simp[e3,e4])]
 clear e0 e1 e2 e3 e4
 go_enter Tryz.func219,Tryz.ntmps219
 go_wp2_with (go_at_call 217;refine(HA.out _ 1 (Below.refl _ _)).mono ?_)
 rintro e w2 ⟨rfl,hb2⟩
 have HB2:=Lib.hid (bt HB1.out hb2)
 clear hb2
 go_wp2
 go_ret
 exact⟨rfl,HB2.out⟩
set_option maxRecDepth 100000 in
set_option maxHeartbeats 1500000 in
theorem isPlain_any (h:Prg w l A n O bd bp)(c co q:Nat)(hq:q<n):Calls Tryz.prog 218 #[PrV A n c O co bd bp,.int .i64 (q:Int)] w (BPost (plnB l q) w):=by
 have hb0:=heap1 w (.cells #[.slice A n c,.slice O n co,.map (some bd),.map (some bp)] 87)
 have HB0:=Lib.hid hb0
 have HS:=Lib.hid (sig_any (h.below hb0) c co q hq)
 have HL:=Lib.hid (h.sl hq)
 have HP:∀W,Calls Tryz.prog 258 #[] W (fun e w'=>∃K c,e = .returned (.agg #[.slice K 1 c,.int .i64 1])∧Ints w' K [1]∧Below W.heap.size W w'∧∀a,K=some a→W.heap.size≤a.block):=plainSig_any
 unfold PrV at HS
 unfold PrV plnB
 clear h hb0 hq
 generalize sgP l q=xs at *
 generalize (ndA l (q:Int)).n=rs at *
 go_enter Tryz.func218,Tryz.ntmps218
 go_wp2_with (go_at_call 187;refine HS.out.mono ?_)
 rintro e w1 ⟨K1,c1,rfl,hI1,hb1,_⟩
 obtain⟨m,hm⟩:∃m,m=xs.length:=⟨_,rfl⟩
 rw[← hm]
 have HH1:=Lib.hid (And.intro hI1 (And.intro hb1 hm))
 clear hI1 hb1 hm
 go_wp2_with (go_at_call 258;refine(HP _).mono ?_)
 rintro e w2 ⟨K2,c2,rfl,hI2,hb2,_⟩
 have HH2:=Lib.hid (And.intro hI2 hb2)
 clear hI2 hb2
 go_wp2_with (go_at_call 188;refine(sameSig_any K1 K2 m 1 c1 c2 xs [1] rs 1 w2 (HH1.out.1.below HH2.out.2) HH2.out.1 HH1.out.2.2 rfl (by have:=HL.out;have:=HH1.out.2.2;omega)).mono ?_)
 rintro e w3 ⟨rfl,hb3⟩
 have HH3:=Lib.hid hb3
 clear hb3
 go_wp2
 go_ret
 exact⟨rfl,bt HB0.out (bt HH1.out.2.1 (bt HH2.out.2 HH3.out))⟩
set_option maxRecDepth 100000 in
set_option maxHeartbeats 1500000 in
theorem hasMain_any (h:Prg w l A n O bd bp)(c co:Nat):Calls Tryz.prog 134 #[PrV A n c O co bd bp] w (BPost (manB l) w):=by
 have hb0:=heap1 w (.cells #[.slice A n c,.slice O n co,.map (some bd),.map (some bp)] 87)
 have HB0:=Lib.hid hb0
 have HP:=Lib.hid (procedure_any (h.below hb0) c co ⟨#[109,97,105,110]⟩ (by decide))
 unfold manB
 cases hp:prF l ⟨#[109,97,105,110]⟩ 0 with
 |none=>
  rw[hp]at HP
  unfold PrV at HP
  unfold PrV
  clear h hb0 hp
  go_enter Tryz.func134,Tryz.ntmps134
  go_wp2_with (go_at_call 106;refine HP.out.mono ?_)
  rintro e w1 ⟨rfl,hb1⟩
  have HB1:=Lib.hid (bt HB0.out hb1)
  clear hb1
  rw[show optZ none = -1 from rfl]
  go_wp2
  go_ret
  exact⟨rfl,HB1.out⟩
 |some q=>
  have hq:q<n:=by rw[h.len];exact(prF_lt hp).1
  have HS:=Lib.hid (fun W (hb:Below w.heap.size w W)=>sig_any (h.below hb) c co q hq)
  have HX:=Lib.hid (Bx.new w 87 [.slice A n c,.slice O n co,.map (some bd),.map (some bp)])
  have HL:=Lib.hid (h.sl hq)
  rw[hp,show optZ (some q)=(q:Int)from rfl]at HP
  have hne:((q:Int) != -1)=true:=by simp
  unfold PrV at HP HS
  unfold PrV
  show Calls _ _ _ _ (BPost (decide (sgP l q=[])&&decide ((ndA l q).n=0)) w)
  generalize sgP l q=xs at *
  generalize (ndA l (q:Int)).n=rs at *
  clear h hb0 hp hq
  go_enter Tryz.func134,Tryz.ntmps134
  go_wp2_with (go_at_call 106;refine HP.out.mono ?_)
  rintro e w1 ⟨rfl,hb1⟩
  have hB2:=HX.out.below hb1 HX.out.lt
  have c0:=(hB2.cell 0).trans rfl
  have c1:=(hB2.cell 1).trans rfl
  have c2:=(hB2.cell 2).trans rfl
  have c3:=(hB2.cell 3).trans rfl
  have HB1:=Lib.hid (bt HB0.out hb1)
  clear hb1 hB2
  go_wp2_with (go_at_call 187;refine(HS.out _ HB1.out).mono ?_)
  rintro e w2 ⟨K1,c1,rfl,hI1,hb2,_⟩
  obtain⟨m,hm⟩:∃m,m=xs.length:=⟨_,rfl⟩
  rw[← hm]
  have HH1:=Lib.hid (And.intro hI1 (And.intro hb2 hm))
  clear hI1 hb2 hm
  go_wp2_with (go_at_call 188;refine(sameSig_any K1 none m 0 c1 0 xs [] rs 0 w2 HH1.out.1 (fun h=>absurd h (Nat.lt_irrefl 0)) HH1.out.2.2 rfl (by have:=HL.out;have:=HH1.out.2.2;omega)).mono ?_)
  rintro e w3 ⟨rfl,hb3⟩
  have HH3:=Lib.hid hb3
  clear hb3
  go_wp2
  go_ret
  exact⟨rfl,bt HB1.out (bt HH1.out.2.1 HH3.out)⟩
end
end Go.Proofs.YtedkgofehbecmaaGreatDoor
namespace Go.Proofs.YtedkgofehbecmaaGreatDoor
open Go Go.RowKit
open Tr (Bx heap1 bt Nds Ints VPost BPost cell_same)
structure CeC (w:World) (P:List Value) (u v:Value) (wr:World):Prop where
 b:Bx wr w.heap.size 87 P
 s:Bx wr (w.heap.size+1) 194 [u,v]
 lo:Below w.heap.size w wr
 sz:w.heap.size+1+1≤wr.heap.size
section
variable {w:World} {P:List Value} {u v:Value} {wr wr':World}
theorem CeC.below (h:CeC w P u v wr)(hb:Below wr.heap.size wr wr'):CeC w P u v wr':=⟨h.b.below hb h.b.lt,h.s.below hb h.s.lt,bt h.lo hb,Nat.le_trans h.sz hb.size⟩
theorem CeC.drew (h:CeC w P u v wr):CeC w P u v { wr with drawn:=wr.drawn+1 }:=⟨h.b,h.s,bdrew h.lo,h.sz⟩
theorem CeC.put (h:CeC w P u v wr)(x y:Value):CeC w P x y ((wr.setCell ⟨w.heap.size+1,0,none⟩ x).setCell ⟨w.heap.size+1,1,none⟩ y):=
 ⟨(h.b.far (p:=⟨w.heap.size+1,0,none⟩) (by show w.heap.size≠w.heap.size+1;omega) _).far (p:=⟨w.heap.size+1,1,none⟩) (by show w.heap.size≠w.heap.size+1;omega) _,(h.s.set_ 0 x).set_ 1 y,(h.lo.setCell (p:=⟨w.heap.size+1,0,none⟩) (by show w.heap.size≤w.heap.size+1;omega) _).setCell (p:=⟨w.heap.size+1,1,none⟩) (by show w.heap.size≤w.heap.size+1;omega) _,by rw[World.size_setCell,World.size_setCell];exact h.sz⟩
end
theorem cell_far2 {w:World}{b j g i i2:Nat}{x y:Value}(h:b≠g)(_h2:b≠g):((w.setCell ⟨g,i,none⟩ x).setCell ⟨g,i2,none⟩ y).cell? ⟨b,j,none⟩=w.cell? ⟨b,j,none⟩:=by
 rw[cell_same (w:=w.setCell ⟨g,i,none⟩ x) (heap_setCell_other _ _ _ _ h),cell_same (heap_setCell_other _ _ _ _ h)]
theorem own91:Own 106:=⟨_,Tryz.func106,by kernel_rfl,by kernel_rfl⟩
theorem own145:Own 187:=⟨_,Tryz.func187,by kernel_rfl,by kernel_rfl⟩
theorem own153:Own 258:=⟨_,Tryz.func258,by kernel_rfl,by kernel_rfl⟩
theorem run_load83 {w:World}{b n c co bd bp:Nat}{A O:Option Addr}(h:Bx w b 87 [.slice A n c,.slice O n co,.map (some bd),.map (some bp)]):(Instr.loadAt 87 (.pointer (some ⟨b,0,none⟩))).run Tryz.prog w = .ok (.agg #[.slice A n c,.slice O n co,.map (some bd),.map (some bp)]) w:=by
 have c0:=(h.cell 0).trans rfl
 have c1:=(h.cell 1).trans rfl
 have c2:=(h.cell 2).trans rfl
 have c3:=(h.cell 3).trans rfl
 simp[go_sem,c0,c1,c2,c3]
section
variable {K:Act→World→Prop} {Q:Exit→Act→World→Prop} {a:Act} {w:World} {o:Oper}
theorem store139_wp {x y:Operand}{g n c:Nat}{A:Option Addr}{r:Int}{u0 u1:Value}(ho:o.op = .store 194 x y)(hx:a.eval x = .pointer (some ⟨g,0,none⟩))(hy:a.eval y = .agg #[.slice A n c,.int .i64 r])(hB:Bx w g 194 [u0,u1])
  (h:K (a.put o.dst undef) ((w.setCell ⟨g,0,none⟩ (.slice A n c)).setCell ⟨g,1,none⟩ (.int .i64 r))):o.wp Tryz.prog a w K Q:=by
 have c0:=(hB.cell 0).trans rfl
 have c1:=(hB.cell 1).trans rfl
 have f0:=hB.frozen 0
 have f1:=hB.frozen 1
 have d1:=((hB.set_ 0 (.slice A n c)).cell 1).trans rfl
 have g1:=(hB.set_ 0 (.slice A n c)).frozen 1
 unfold Oper.wp execOp
 simp only[ho,hx,hy]
 simp[go_sem,c0,f0,d1,g1,Result.andThen]
 exact h
end
def CePost (xs:List Int)(rs:Int)(ok:Bool)(w:World)(e:Ending)(w':World):Prop:=∃K c,e = .returned (.tuple #[.agg #[.slice K xs.length c,.int .i64 rs],.bool ok])∧Ints w' K xs∧Below w.heap.size w w'
section
variable {w:World} {l:List Tr.Nd} {A O:Option Addr} {n bd bp:Nat}
set_option maxRecDepth 100000 in
set_option maxHeartbeats 1500000 in
theorem callee_any (h:Prg w l A n O bd bp)(c co p k:Nat)(hp:p<n)(ks:List Int)(hks:(ndA l p).ks=(k:Int) :: ks)(hk:k<n)(hun:dnA l p (calN l p)≠none∨prF l (calN l p) 0≠none):Calls Tryz.prog 260 #[PrV A n c O co bd bp,.int .i64 (p:Int)] w (CePost (calS l p).1.1 (calS l p).1.2 (calS l p).2 w):=by
 unfold PrV
 have hb0:=heap1 w (.cells #[.slice A n c,.slice O n co,.map (some bd),.map (some bp)] 87)
 have hb1:=bt hb0 (heap1 (w.alloc (.cells #[.slice A n c,.slice O n co,.map (some bd),.map (some bp)] 87)) (.cells #[.slice none 0 0,.int .i64 0] 194))
 have xl:p<l.length:=by rw[← h.len];exact hp
 have xz:(p:Int)<(n:Int):=by omega
 obtain⟨bA,off,K,cK,rfl,xt,x0,x1,x2,x3,x4,xI⟩:=node_at h.nds (Below.refl _ w) p xl
 rw[← ndA_eq xl]at x0 x1 x2 x3 x4 xI
 have hc1:CeC w [.slice (some ⟨bA,off,none⟩) n c,.slice O n co,.map (some bd),.map (some bp)] (.slice none 0 0) (.int .i64 0) ((w.alloc (.cells #[.slice (some ⟨bA,off,none⟩) n c,.slice O n co,.map (some bd),.map (some bp)] 87)).alloc (.cells #[.slice none 0 0,.int .i64 0] 194)):=by
  have k2:=Bx.new (w.alloc (.cells #[.slice (some ⟨bA,off,none⟩) n c,.slice O n co,.map (some bd),.map (some bp)] 87)) 194 [.slice none 0 0,.int .i64 0]
  rw[World.size_alloc]at k2
  exact⟨(Bx.new w 87 _).alloc _,k2,hb1,by rw[World.size_alloc,World.size_alloc];exact Nat.le_refl _⟩
 have HC1:=Lib.hid hc1
 have HN:=Lib.hid (calleeName_any (h.below hb1) c co p k hp hks hk)
 have hcs:(calN l p).size≤281474976710656:=by
  have hkl:k<l.length:=by rw[← h.len];exact hk
  unfold calN
  rw[kidA_0 hks,ndA_eq hkl]
  exact h.text _ (List.getElem_mem hkl)
 have HD:=Lib.hid (fun W (hb:Below w.heap.size w W)=>denoted_any (h.below hb) c co p hp (calN l p) hcs)
 unfold PrV at HN HD
 unfold calS
 cases hd:dnA l p (calN l p) with
 |none=>
  obtain⟨q,hq⟩:∃q,prF l (calN l p) 0=some q:=by
   cases hq:prF l (calN l p) 0 with
   |none=>
    rcases hun with e |e
    ·exact absurd hd e
    ·exact absurd hq e
   |some q=>exact⟨q,rfl⟩
  have hqn:q<n:=by rw[h.len];exact(prF_lt hq).1
  rw[hd,show optZ none = -1 from rfl]at HD
  have HP:=Lib.hid (fun W (hb:Below w.heap.size w W)=>procedure_any (h.below hb) c co (calN l p) hcs)
  rw[hq,show optZ (some q)=(q:Int)from rfl]at HP
  have HS:=Lib.hid (fun W (hb:Below w.heap.size w W)=>sig_any (h.below hb) c co q hqn)
  unfold PrV at HP HS
  rw[hq]
  show Calls _ _ _ _ (CePost (sgP l (q:Int)) (ndA l (q:Int)).n true w)
  clear h hb0 hb1 hc1 hks hun hd hq xI x0 x1 x2 x3 x4 hcs hqn hp xl
  generalize calN l p=nm at *
  generalize sgP l (q:Int)=xs at *
  generalize (ndA l (q:Int)).n=rs at *
  go_enter Tryz.func260,Tryz.ntmps260
  go_wp2_with (go_at_call 215;refine HN.out.mono ?_)
  rintro e w2 ⟨rfl,hb2⟩
  have hc2:=HC1.out.below hb2
  have HC2:=Lib.hid hc2
  have b0:=(hc2.b.cell 0).trans rfl
  have b1:=(hc2.b.cell 1).trans rfl
  have b2:=(hc2.b.cell 2).trans rfl
  have b3:=(hc2.b.cell 3).trans rfl
  clear hb2 hc2
  go_wp2_with (go_at_call 214;refine(HD.out w2 HC2.out.lo).mono ?_)
  rintro e w3 ⟨rfl,hb3⟩
  have hc3:=HC2.out.below hb3
  have HC3:=Lib.hid hc3
  clear hb3 hc3 b0 b1 b2 b3
  go_upto_region 4 with(fail)
  have hS:=HC3.out.drew
  have hlo:=HC3.out.drew.lo
  refine wp_region_held (S:=fun w'=>∃u v,CeC w [.slice (some ⟨bA,off,none⟩) n c,.slice O n co,.map (some bd),.map (some bp)] u v w') (by kernel_rfl) ?_
  generalize ({ w3 with drawn:=w3.drawn+1 }:World)=W5 at *
  refine hpu 0 (.agg #[.slice (some ⟨bA,off,none⟩) n c,.slice O n co,.map (some bd),.map (some bp)]) (by kernel_rfl) rfl rfl (fun _ _ _ h=>h) rfl (y_load rfl rfl (fun w' q=>by obtain⟨u,v,q⟩:=q;exact run_load83 q.b)) ⟨_,_,hS⟩ ?_
  simp only[ap]
  refine hpu 1 (.agg #[.slice (some ⟨bA,off,none⟩) n c,.slice O n co,.map (some bd),.map (some bp)]) (by kernel_rfl) rfl rfl (fun _ _ _ h=>h) rfl (y_load rfl rfl (fun w' q=>by obtain⟨u,v,q⟩:=q;exact run_load83 q.b)) ⟨_,_,hS⟩ ?_
  simp only[ap]
  refine hpu 2 (.string nm) (by kernel_rfl) rfl rfl (fun _ _ _ h=>h) rfl (y_move rfl rfl) ⟨_,_,hS⟩ ?_
  simp only[ap]
  refine h_callx 3 ({ dst:=some 20,op:=Op.call { callee:=Callee.value (Operand.func 106),args := #[Operand.tmp 18,Operand.tmp 19],argTypes := #[87,9] },type:=3,pos := "faults.go:112",after := #[{ on:=1,ground:=Ground.data },{ on:=2,ground:=Ground.data }],guard:=none }:Oper) (args := #[.agg #[.slice (some ⟨bA,off,none⟩) n c,.slice O n co,.map (some bd),.map (some bp)],.string nm]) own91 rfl rfl (by kernel_rfl) rfl rfl (HP.out W5 hlo) ?_
  rintro e w6 ⟨rfl,hb6⟩
  refine .inr ⟨_,rfl,⟨_,_,hS.below hb6⟩,?_⟩
  simp only[Act.put,List.setIfInBounds_toArray,List.set_cons_zero,List.set_cons_succ]
  refine h_callx 4 ({ dst:=some 21,op:=Op.call { callee:=Callee.value (Operand.func 187),args := #[Operand.tmp 17,Operand.tmp 20],argTypes := #[87,3] },type:=194,pos := "faults.go:112",after := #[{ on:=0,ground:=Ground.data },{ on:=3,ground:=Ground.data },{ on:=3,ground:=Ground.chain }],guard:=none }:Oper) (args := #[.agg #[.slice (some ⟨bA,off,none⟩) n c,.slice O n co,.map (some bd),.map (some bp)],.int .i64 (q:Int)]) own145 rfl rfl (by kernel_rfl) rfl rfl (HS.out w6 (bt hlo hb6)) ?_
  rintro e W4 ⟨VK,vc,rfl,hI4,hb4,hfr⟩
  have hS4:=(hS.below hb6).below hb4
  refine .inr ⟨_,rfl,⟨_,_,hS4⟩,?_⟩
  simp only[Act.put,List.setIfInBounds_toArray,List.set_cons_zero,List.set_cons_succ]
  obtain⟨m,hm⟩:∃m,m=xs.length:=⟨_,rfl⟩
  rw[← hm]
  have HM:=Lib.hid hm
  refine h_one 5 ({ dst:=none,op:=Op.store 194 (Operand.tmp 4) (Operand.tmp 21),type:=0,pos := "faults.go:112",after := #[{ on:=4,ground:=Ground.data },{ on:=4,ground:=Ground.chain },{ on:=0,ground:=Ground.phase },{ on:=1,ground:=Ground.phase },{ on:=2,ground:=Ground.phase },{ on:=3,ground:=Ground.phase },{ on:=4,ground:=Ground.phase }],guard:=none }:Oper) rfl (by kernel_rfl) rfl ?_
  have hS9:=hS4.put (.slice VK m vc) (.int .i64 rs)
  refine store139_wp rfl rfl rfl hS4.s ⟨⟨_,_,hS9⟩,?_⟩
  simp only[Act.put]
  have hI9:Ints ((W4.setCell ⟨w.heap.size+1,0,none⟩ (.slice VK m vc)).setCell ⟨w.heap.size+1,1,none⟩ (.int .i64 rs)) VK xs:=fun h0=>by
   obtain⟨b,off',rfl,hl,hc⟩:=hI4 h0
   have h9:=hfr _ rfl
   have h8:=(hS.below hb6).sz
   have hne:b≠w.heap.size+1:=by have:w6.heap.size≤b:=h9;omega
   exact⟨b,off',rfl,by rw[World.size_setCell,World.size_setCell];exact hl,fun j hj=>by rw[cell_far2 hne hne];exact hc j hj⟩
  clear hI4 hm hb4 hb6 hlo hfr
  refine hpu 6 (.bool true) (by kernel_rfl) rfl rfl (fun _ _ _ h=>h) rfl (y_assign rfl rfl) ⟨_,_,hS9⟩ ?_
  simp only[ap]
  refine wpAnyH_done (by kernel_rfl) ?_ _
  have HH:=Lib.hid (And.intro hS9 hI9)
  clear hS hS4 hS9 hI9
  generalize (W4.setCell ⟨w.heap.size+1,0,none⟩ (.slice VK m vc)).setCell ⟨w.heap.size+1,1,none⟩ (.int .i64 rs)=WE at *
  have z0:=(HH.out.1.s.cell 0).trans rfl
  have z1:=(HH.out.1.s.cell 1).trans rfl
  go_wp2
  refine bodyPost_ret (v :=.tuple #[.agg #[.slice VK m vc,.int .i64 rs],.bool true]) (by simp[results,Tryz.f260,go_sem,z0,z1]) rfl ?_
  exact⟨VK,vc,by rw[HM.out],HH.out.2,HH.out.1.lo⟩
 |some d=>
  have hdn:d<n:=by rw[h.len];exact(dnA_lt hd).1
  rw[hd,show optZ (some d)=(d:Int)from rfl]at HD
  have ul:d<l.length:=by rw[← h.len];exact hdn
  have uz:(d:Int)<(n:Int):=by omega
  obtain⟨bBu,offu,K2,cK2,eu,ut,u0,u1,u2,u3,u4,uI⟩:=node_at h.nds (Below.refl _ w) d ul
  cases eu
  rw[← ndA_eq ul]at u0 u1 u2 u3 u4 uI
  have hde:((d:Int) == -1)=false:=beq_eq_false_iff_ne.2 (by omega)
  have HP:∀W,Calls Tryz.prog 258 #[] W (fun e w'=>∃K c,e = .returned (.agg #[.slice K 1 c,.int .i64 1])∧Ints w' K [1]∧Below W.heap.size W w'∧∀a,K=some a→W.heap.size≤a.block):=plainSig_any
  show Calls _ _ _ _ (CePost [1] 1 (decide ((ndA l d).n=4)) w)
  clear h hb0 hb1 hc1 hks hun hd xI x0 x1 x2 x3 x4 hcs hp xl uI u0 u2 u3 u4 ul
  generalize calN l p=nm at *
  generalize (ndA l (d:Int)).n=dn at *
  go_enter Tryz.func260,Tryz.ntmps260
  go_wp2_with (go_at_call 215;refine HN.out.mono ?_)
  rintro e w2 ⟨rfl,hb2⟩
  have hc2:=HC1.out.below hb2
  have HC2:=Lib.hid hc2
  have b0:=(hc2.b.cell 0).trans rfl
  have b1:=(hc2.b.cell 1).trans rfl
  have b2:=(hc2.b.cell 2).trans rfl
  have b3:=(hc2.b.cell 3).trans rfl
  clear hb2 hc2
  go_wp2_with (go_at_call 214;refine(HD.out w2 HC2.out.lo).mono ?_)
  rintro e w3 ⟨rfl,hb3⟩
  have hc3:=HC2.out.below hb3
  have HC3:=Lib.hid hc3
  clear hb3 hc3 b0 b1 b2 b3
  go_upto_region 5 with(fail)
  have hS:=HC3.out.drew
  refine wp_region_held (S:=fun w'=>∃u v,CeC w [.slice (some ⟨bA,off,none⟩) n c,.slice O n co,.map (some bd),.map (some bp)] u v w') (by kernel_rfl) ?_
  generalize ({ w3 with drawn:=w3.drawn+1 }:World)=W5 at *
  refine hpu 1 (.pointer (some ⟨w.heap.size,0,none⟩)) (by kernel_rfl) rfl rfl (fun _ _ _ h=>h) rfl (y_field rfl rfl (run_field83_0 _)) ⟨_,_,hS⟩ ?_
  simp only[ap]
  refine hpu 2 (.slice (some ⟨bA,off,none⟩) n c) (by kernel_rfl) rfl rfl (fun _ _ _ h=>h) rfl (y_load rfl rfl (fun w' q=>by obtain⟨u,v,q⟩:=q;exact run_load23s ((q.b.cell 0).trans rfl))) ⟨_,_,hS⟩ ?_
  simp only[ap]
  refine hpu 3 (.int .i64 (d:Int)) (by kernel_rfl) rfl rfl (fun _ _ _ h=>h) rfl (y_move rfl rfl) ⟨_,_,hS⟩ ?_
  simp only[ap]
  refine hpu 4 (.pointer (some ⟨bA,off+d*5,none⟩)) (by kernel_rfl) rfl rfl (fun _ _ _ h=>h) rfl (y_index rfl rfl rfl (Tr.run_idx (t:=22) (e:=50) (sz:=5) (by kernel_rfl) (by kernel_rfl) (by kernel_rfl) bA off n c d hdn)) ⟨_,_,hS⟩ ?_
  simp only[ap]
  refine hpu 5 (.pointer (some ⟨bA,off+d*5+1,none⟩)) (by kernel_rfl) rfl rfl (fun _ _ _ h=>h) rfl (y_field rfl rfl (run_field37_1g _ _)) ⟨_,_,hS⟩ ?_
  simp only[ap]
  refine hpu 6 (.int .i64 dn) (by kernel_rfl) rfl rfl (fun _ _ _ h=>h) rfl (y_load rfl rfl (fun w' q=>by obtain⟨u,v,q⟩:=q;exact run_load3s ((q.lo.cell (p:=⟨bA,off+d*5+1,none⟩) ut).trans u1))) ⟨_,_,hS⟩ ?_
  simp only[ap]
  refine hpu 7 (.bool (decide (dn=4))) (by kernel_rfl) rfl rfl (fun _ _ _ h=>h) rfl (y_bin rfl rfl rfl (fun _=>by kernel_rfl) (fun w'=>by show _=Result.ok (Value.bool (dn==4)) w';simp[go_sem])) ⟨_,_,hS⟩ ?_
  simp only[ap]
  refine h_callx 0 ({ dst:=some 22,op:=Op.call { callee:=Callee.value (Operand.func 258),args := #[],argTypes := #[] },type:=194,pos := "faults.go:114",after := #[],guard:=none }:Oper) (args := #[]) own153 rfl rfl (by kernel_rfl) rfl rfl (HP W5) ?_
  rintro e W4 ⟨VK,vc,rfl,hI4,hb4,hfr⟩
  have hS4:=hS.below hb4
  refine .inr ⟨_,rfl,⟨_,_,hS4⟩,?_⟩
  simp only[Act.put,List.setIfInBounds_toArray,List.set_cons_zero,List.set_cons_succ]
  refine h_one 8 ({ dst:=none,op:=Op.store 194 (Operand.tmp 4) (Operand.tmp 22),type:=0,pos := "faults.go:114",after := #[{ on:=0,ground:=Ground.data },{ on:=0,ground:=Ground.chain },{ on:=0,ground:=Ground.phase },{ on:=1,ground:=Ground.textOnly Departure.lateStores },{ on:=2,ground:=Ground.textOnly Departure.lateStores },{ on:=3,ground:=Ground.textOnly Departure.lateStores },{ on:=4,ground:=Ground.textOnly Departure.lateStores },{ on:=5,ground:=Ground.textOnly Departure.lateStores },{ on:=6,ground:=Ground.textOnly Departure.lateStores },{ on:=7,ground:=Ground.textOnly Departure.lateStores }],guard:=none }:Oper) rfl (by kernel_rfl) rfl ?_
  have hS9:=hS4.put (.slice VK 1 vc) (.int .i64 1)
  refine store139_wp rfl rfl rfl hS4.s ⟨⟨_,_,hS9⟩,?_⟩
  simp only[Act.put]
  have hI9:Ints ((W4.setCell ⟨w.heap.size+1,0,none⟩ (.slice VK 1 vc)).setCell ⟨w.heap.size+1,1,none⟩ (.int .i64 1)) VK [1]:=fun h0=>by
   obtain⟨b,off',rfl,hl,hc⟩:=hI4 h0
   have h9:=hfr _ rfl
   have h8:=hS.sz
   have hne:b≠w.heap.size+1:=by have:W5.heap.size≤b:=h9;omega
   exact⟨b,off',rfl,by rw[World.size_setCell,World.size_setCell];exact hl,fun j hj=>by rw[cell_far2 hne hne];exact hc j hj⟩
  clear hI4 hb4 hfr
  refine hpu 9 (.bool (decide (dn=4))) (by kernel_rfl) rfl rfl (fun _ _ _ h=>h) rfl (y_assign rfl rfl) ⟨_,_,hS9⟩ ?_
  simp only[ap]
  refine wpAnyH_done (by kernel_rfl) ?_ _
  have HH:=Lib.hid (And.intro hS9 hI9)
  clear hS hS4 hS9 hI9
  generalize (W4.setCell ⟨w.heap.size+1,0,none⟩ (.slice VK 1 vc)).setCell ⟨w.heap.size+1,1,none⟩ (.int .i64 1)=WE at *
  have z0:=(HH.out.1.s.cell 0).trans rfl
  have z1:=(HH.out.1.s.cell 1).trans rfl
  go_wp2
  refine bodyPost_ret (v :=.tuple #[.agg #[.slice VK 1 vc,.int .i64 1],.bool (decide (dn=4))]) (by simp[results,Tryz.f260,go_sem,z0,z1]) rfl ?_
  exact⟨VK,vc,rfl,HH.out.2,HH.out.1.lo⟩
end
end Go.Proofs.YtedkgofehbecmaaGreatDoor
