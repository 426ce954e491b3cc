/- PROVED: Di Dj Dk. No more condition. -/
import Derived.Test.YteecfjhjllajlaaGreatDoorG39
set_option maxHeartbeats 8000000
set_option maxRecDepth 100000
namespace Go.Proofs.YteecfjhjllajlaaGreatDoor
open Go.Lib (hid)
section
open Go Go.RowKit Go.Sort
open Tr (Bx ag bt bu Ints aG au fT par gL fK eY qp aA gJ)
theorem Hd (k:Int):k=2\/k=3\/k=4\/k=5\/k=22\/k=23\/k=8\/k=17\/k=24\/k=9\/k=16\/k=25\/k=26\/k=27\/k=7\/k=10\/k=15\/k=11\/k=12\/k=13\/k=14\/((k==2)=false/\(k==3)=false/\(k==4)=false/\(k==5)=false/\(k==22)=false/\(k==23)=false/\(k==8)=false/\(k==17)=false/\(k==24)=false/\(k==9)=false/\(k==16)=false/\(k==25)=false/\(k==26)=false/\(k==27)=false/\(k==7)=false/\(k==10)=false/\(k==15)=false/\(k==11)=false/\(k==12)=false/\(k==13)=false/\(k==14)=false):=by
 simp only[beq_eq_false_iff_ne];omega
section
variable {w:World} {l:List Tr.Nd} {A:Option Addr} {n:Nat} {r:Int}
theorem Bw (h:RT w A n l r)(c p:Nat)(hp:p<n):Calls Tryz.prog 84 #[.agg #[.slice A n c,.int .i64 r],.int .i64 (p:Int)] w (Tr.az (iT l p) w):=by
 have hb0:=ag w (.cells #[.slice A n c,.int .i64 r] 25);have HX:=hid (Bx.new w 25 [.slice A n c,.int .i64 r]);have HB0:=hid hb0;have HT:=hid (h.below hb0);obtain⟨W0,hW0⟩:∃W0,w.alloc (.cells #[.slice A n c,.int .i64 r] 25)=W0:=⟨_,rfl⟩;rw[hW0]at HX HB0 HT;clear h hb0;obtain⟨bA,off,K,cK,rfl,xt,x0,x1,x2,x3,x4,xI⟩:=HT.out.node hp;have a0:=(HX.out.cell 0).trans rfl;have a1:=(HX.out.cell 1).trans rfl;have hpz:(p:Int)<(n:Int):=by omega
 have hb1:=ag W0 (.cells #[.int .i64 (ae l p).kd,.int .i64 (ae l p).n,.int .i64 (ae l p).pl,.string (ae l p).tx,.slice K (ae l p).ks.length cK] 37);have HB1:=hid hb1;have hX1:=HX.out.alloc (.cells #[.int .i64 (ae l p).kd,.int .i64 (ae l p).n,.int .i64 (ae l p).pl,.string (ae l p).tx,.slice K (ae l p).ks.length cK] 37);have hN1:=Bx.new W0 37 [.int .i64 (ae l p).kd,.int .i64 (ae l p).n,.int .i64 (ae l p).pl,.string (ae l p).tx,.slice K (ae l p).ks.length cK];obtain⟨W1,hW1⟩:∃W1,W0.alloc (.cells #[.int .i64 (ae l p).kd,.int .i64 (ae l p).n,.int .i64 (ae l p).pl,.string (ae l p).tx,.slice K (ae l p).ks.length cK] 37)=W1:=⟨_,rfl⟩;rw[hW1]at HB1 hX1 hN1;have HX1:=hid (And.intro hX1 hN1);have HT1:=hid (HT.out.below HB1.out);have HI:=hid (xI.below HB1.out);have HPL:=hid (And.intro (show p<l.length by rw[<- HT.out.tt.len];exact hp) HT.out.tt.len);obtain⟨b,hRT⟩:=HT.out.rtn;have HRT:=hid hRT;have HAFF:=hid (hRT.ndf HPL.out.1);have HKID:=hid (hRT.nat HPL.out.1);have HROOT:=hid (And.intro HT.out.root (show l.length-1<n by have:=hRT.len;rw[HPL.out.2];omega));clear hb1 hX1 hN1 xI hRT HT HX;have e0:=(HX1.out.1.cell 0).trans rfl;have e1:=(HX1.out.1.cell 1).trans rfl;have ek:=(HX1.out.2.cell 0).trans rfl;have en:=(HX1.out.2.cell 1).trans rfl;have ep:=(HX1.out.2.cell 2).trans rfl;have et:=(HX1.out.2.cell 3).trans rfl;have es:=(HX1.out.2.cell 4).trans rfl;rcases Hd (ae l p).kd with hk |hk |hk |hk |hk |hk |hk |hk |hk |hk |hk |hk |hk |hk |hk |hk |hk |hk |hk |hk |hk |hk
 ·have HVAL:iT l p=if p9 l p then 4 else 0:=by
   unfold iT;rw[hk,if_pos (by decide)]
  have HC:=hid (mE HT1.out c p hp);rw[HVAL];rw[hk]at hW1 ek HX1 x0;clear HVAL hk;clear HT1 HAFF HPL HRT HI HKID HROOT;generalize p9 l p=tb at *
  generalize (ae l (p:Int)).n=nn at *
  generalize (ae l (p:Int)).pl=pl at *
  generalize (ae l (p:Int)).tx=tx at *
  generalize (ae l (p:Int)).ks.length=m at *
  cases tb with
  |true=>
   rw[if_pos rfl];go_enter Tryz.func84,Tryz.ntmps84
   go_wp2_with (go_at_call 147;refine HC.out.mono ?_);rintro e w2 ⟨rfl,hb2⟩;have HE:=hid (bt HB0.out (bt HB1.out hb2));clear hb2;go_wp2
   go_ret
   exact⟨rfl,HE.out⟩
  |false=>
   rw[if_neg (by decide)];go_enter Tryz.func84,Tryz.ntmps84
   go_wp2_with (go_at_call 147;refine HC.out.mono ?_);rintro e w2 ⟨rfl,hb2⟩;have HE:=hid (bt HB0.out (bt HB1.out hb2));clear hb2;go_wp2
   go_ret
   exact⟨rfl,HE.out⟩
 ·have HVAL:iT l p=if p9 l p then 4 else 0:=by
   unfold iT;rw[hk,if_pos (by decide)]
  have HC:=hid (mE HT1.out c p hp);rw[HVAL];rw[hk]at hW1 ek HX1 x0;clear HVAL hk;clear HT1 HAFF HPL HRT HI HKID HROOT;generalize p9 l p=tb at *
  generalize (ae l (p:Int)).n=nn at *
  generalize (ae l (p:Int)).pl=pl at *
  generalize (ae l (p:Int)).tx=tx at *
  generalize (ae l (p:Int)).ks.length=m at *
  cases tb with
  |true=>
   rw[if_pos rfl];go_enter Tryz.func84,Tryz.ntmps84
   go_wp2_with (go_at_call 147;refine HC.out.mono ?_);rintro e w2 ⟨rfl,hb2⟩;have HE:=hid (bt HB0.out (bt HB1.out hb2));clear hb2;go_wp2
   go_ret
   exact⟨rfl,HE.out⟩
  |false=>
   rw[if_neg (by decide)];go_enter Tryz.func84,Tryz.ntmps84
   go_wp2_with (go_at_call 147;refine HC.out.mono ?_);rintro e w2 ⟨rfl,hb2⟩;have HE:=hid (bt HB0.out (bt HB1.out hb2));clear hb2;go_wp2
   go_ret
   exact⟨rfl,HE.out⟩
 ·have HVAL:iT l p=if p9 l p then 4 else 0:=by
   unfold iT;rw[hk,if_pos (by decide)]
  have HC:=hid (mE HT1.out c p hp);rw[HVAL];rw[hk]at hW1 ek HX1 x0;clear HVAL hk;clear HT1 HAFF HPL HRT HI HKID HROOT;generalize p9 l p=tb at *
  generalize (ae l (p:Int)).n=nn at *
  generalize (ae l (p:Int)).pl=pl at *
  generalize (ae l (p:Int)).tx=tx at *
  generalize (ae l (p:Int)).ks.length=m at *
  cases tb with
  |true=>
   rw[if_pos rfl];go_enter Tryz.func84,Tryz.ntmps84
   go_wp2_with (go_at_call 147;refine HC.out.mono ?_);rintro e w2 ⟨rfl,hb2⟩;have HE:=hid (bt HB0.out (bt HB1.out hb2));clear hb2;go_wp2
   go_ret
   exact⟨rfl,HE.out⟩
  |false=>
   rw[if_neg (by decide)];go_enter Tryz.func84,Tryz.ntmps84
   go_wp2_with (go_at_call 147;refine HC.out.mono ?_);rintro e w2 ⟨rfl,hb2⟩;have HE:=hid (bt HB0.out (bt HB1.out hb2));clear hb2;go_wp2
   go_ret
   exact⟨rfl,HE.out⟩
 ·have HVAL:iT l p=if p9 l p then 4 else 0:=by
   unfold iT;rw[hk,if_pos (by decide)]
  have HC:=hid (mE HT1.out c p hp);rw[HVAL];rw[hk]at hW1 ek HX1 x0;clear HVAL hk;clear HT1 HAFF HPL HRT HI HKID HROOT;generalize p9 l p=tb at *
  generalize (ae l (p:Int)).n=nn at *
  generalize (ae l (p:Int)).pl=pl at *
  generalize (ae l (p:Int)).tx=tx at *
  generalize (ae l (p:Int)).ks.length=m at *
  cases tb with
  |true=>
   rw[if_pos rfl];go_enter Tryz.func84,Tryz.ntmps84
   go_wp2_with (go_at_call 147;refine HC.out.mono ?_);rintro e w2 ⟨rfl,hb2⟩;have HE:=hid (bt HB0.out (bt HB1.out hb2));clear hb2;go_wp2
   go_ret
   exact⟨rfl,HE.out⟩
  |false=>
   rw[if_neg (by decide)];go_enter Tryz.func84,Tryz.ntmps84
   go_wp2_with (go_at_call 147;refine HC.out.mono ?_);rintro e w2 ⟨rfl,hb2⟩;have HE:=hid (bt HB0.out (bt HB1.out hb2));clear hb2;go_wp2
   go_ret
   exact⟨rfl,HE.out⟩
 ·have HVAL:iT l p=mG l p 0 0:=by
   unfold iT;rw[hk,if_neg (by decide),if_pos (by decide)]
  have HC:=hid (gD HT1.out c p 0 0 hp);rw[HVAL];rw[hk]at hW1 ek HX1 x0;clear HVAL hk;clear HT1 HAFF HPL HRT HI HKID HROOT;generalize mG l p 0 0=nz at *
  generalize (ae l (p:Int)).n=nn at *
  generalize (ae l (p:Int)).pl=pl at *
  generalize (ae l (p:Int)).tx=tx at *
  generalize (ae l (p:Int)).ks.length=m at *
  go_enter Tryz.func84,Tryz.ntmps84
  go_wp2_with (go_at_call 148;refine HC.out.mono ?_);rintro e w2 ⟨rfl,hb2⟩;have HE:=hid (bt HB0.out (bt HB1.out hb2));clear hb2;go_wp2
  go_ret
  exact⟨rfl,HE.out⟩
 ·have HVAL:iT l p=mG l p 3 1:=by
   unfold iT;rw[hk,if_neg (by decide),if_neg (by decide),if_pos (by decide)]
  have HC:=hid (gD HT1.out c p 3 1 hp);rw[HVAL];rw[hk]at hW1 ek HX1 x0;clear HVAL hk;clear HT1 HAFF HPL HRT HI HKID HROOT;generalize mG l p 3 1=nz at *
  generalize (ae l (p:Int)).n=nn at *
  generalize (ae l (p:Int)).pl=pl at *
  generalize (ae l (p:Int)).tx=tx at *
  generalize (ae l (p:Int)).ks.length=m at *
  go_enter Tryz.func84,Tryz.ntmps84
  go_wp2_with (go_at_call 148;refine HC.out.mono ?_);rintro e w2 ⟨rfl,hb2⟩;have HE:=hid (bt HB0.out (bt HB1.out hb2));clear hb2;go_wp2
  go_ret
  exact⟨rfl,HE.out⟩
 ·have HVAL:iT l p=mG l p 3 1:=by
   unfold iT;rw[hk,if_neg (by decide),if_neg (by decide),if_pos (by decide)]
  have HC:=hid (gD HT1.out c p 3 1 hp);rw[HVAL];rw[hk]at hW1 ek HX1 x0;clear HVAL hk;clear HT1 HAFF HPL HRT HI HKID HROOT;generalize mG l p 3 1=nz at *
  generalize (ae l (p:Int)).n=nn at *
  generalize (ae l (p:Int)).pl=pl at *
  generalize (ae l (p:Int)).tx=tx at *
  generalize (ae l (p:Int)).ks.length=m at *
  go_enter Tryz.func84,Tryz.ntmps84
  go_wp2_with (go_at_call 148;refine HC.out.mono ?_);rintro e w2 ⟨rfl,hb2⟩;have HE:=hid (bt HB0.out (bt HB1.out hb2));clear hb2;go_wp2
  go_ret
  exact⟨rfl,HE.out⟩
 ·have HVAL:iT l p=mG l p 3 1:=by
   unfold iT;rw[hk,if_neg (by decide),if_neg (by decide),if_pos (by decide)]
  have HC:=hid (gD HT1.out c p 3 1 hp);rw[HVAL];rw[hk]at hW1 ek HX1 x0;clear HVAL hk;clear HT1 HAFF HPL HRT HI HKID HROOT;generalize mG l p 3 1=nz at *
  generalize (ae l (p:Int)).n=nn at *
  generalize (ae l (p:Int)).pl=pl at *
  generalize (ae l (p:Int)).tx=tx at *
  generalize (ae l (p:Int)).ks.length=m at *
  go_enter Tryz.func84,Tryz.ntmps84
  go_wp2_with (go_at_call 148;refine HC.out.mono ?_);rintro e w2 ⟨rfl,hb2⟩;have HE:=hid (bt HB0.out (bt HB1.out hb2));clear hb2;go_wp2
  go_ret
  exact⟨rfl,HE.out⟩
 ·have HVAL:iT l p=mG l p 3 0:=by
   unfold iT;rw[hk,if_neg (by decide),if_neg (by decide),if_neg (by decide),if_pos (by decide)]
  have HC:=hid (gD HT1.out c p 3 0 hp);rw[HVAL];rw[hk]at hW1 ek HX1 x0;clear HVAL hk;clear HT1 HAFF HPL HRT HI HKID HROOT;generalize mG l p 3 0=nz at *
  generalize (ae l (p:Int)).n=nn at *
  generalize (ae l (p:Int)).pl=pl at *
  generalize (ae l (p:Int)).tx=tx at *
  generalize (ae l (p:Int)).ks.length=m at *
  go_enter Tryz.func84,Tryz.ntmps84
  go_wp2_with (go_at_call 148;refine HC.out.mono ?_);rintro e w2 ⟨rfl,hb2⟩;have HE:=hid (bt HB0.out (bt HB1.out hb2));clear hb2;go_wp2
  go_ret
  exact⟨rfl,HE.out⟩
 ·have HVAL:iT l p=mG l p 1 0:=by
   unfold iT;rw[hk,if_neg (by decide),if_neg (by decide),if_neg (by decide),if_neg (by decide),if_pos (by decide)]
  have HC:=hid (gD HT1.out c p 1 0 hp);rw[HVAL];rw[hk]at hW1 ek HX1 x0;clear HVAL hk;clear HT1 HAFF HPL HRT HI HKID HROOT;generalize mG l p 1 0=nz at *
  generalize (ae l (p:Int)).n=nn at *
  generalize (ae l (p:Int)).pl=pl at *
  generalize (ae l (p:Int)).tx=tx at *
  generalize (ae l (p:Int)).ks.length=m at *
  go_enter Tryz.func84,Tryz.ntmps84
  go_wp2_with (go_at_call 148;refine HC.out.mono ?_);rintro e w2 ⟨rfl,hb2⟩;have HE:=hid (bt HB0.out (bt HB1.out hb2));clear hb2;go_wp2
  go_ret
  exact⟨rfl,HE.out⟩
 ·have HVAL:iT l p=mG l p 1 0:=by
   unfold iT;rw[hk,if_neg (by decide),if_neg (by decide),if_neg (by decide),if_neg (by decide),if_pos (by decide)]
  have HC:=hid (gD HT1.out c p 1 0 hp);rw[HVAL];rw[hk]at hW1 ek HX1 x0;clear HVAL hk;clear HT1 HAFF HPL HRT HI HKID HROOT;generalize mG l p 1 0=nz at *
  generalize (ae l (p:Int)).n=nn at *
  generalize (ae l (p:Int)).pl=pl at *
  generalize (ae l (p:Int)).tx=tx at *
  generalize (ae l (p:Int)).ks.length=m at *
  go_enter Tryz.func84,Tryz.ntmps84
  go_wp2_with (go_at_call 148;refine HC.out.mono ?_);rintro e w2 ⟨rfl,hb2⟩;have HE:=hid (bt HB0.out (bt HB1.out hb2));clear hb2;go_wp2
  go_ret
  exact⟨rfl,HE.out⟩
 ·have hof:=nH HT1.out c (l.length-1) HROOT.out.2 3 3 (ae l p).tx;rw[HRT.out.of33,<- HROOT.out.1]at hof;have HC:=hid hof;clear hof;cases hq:ic l (ae l p).tx 0 with
  |none=>
   have HVAL:iT l p=3:=by
    unfold iT;rw[hk,if_neg (by decide),if_neg (by decide),if_neg (by decide),if_neg (by decide),if_neg (by decide),if_pos (by decide),hq];rfl
   rw[hq,show a_ none = -1 from rfl]at HC;rw[HVAL];rw[hk]at hW1 ek HX1 x0;clear HVAL hk;clear hq;clear HT1 HAFF HPL HRT HI HKID HROOT;generalize (ae l (p:Int)).n=nn at *
   generalize (ae l (p:Int)).pl=pl at *
   generalize (ae l (p:Int)).tx=tx at *
   generalize (ae l (p:Int)).ks.length=m at *
   go_enter Tryz.func84,Tryz.ntmps84
   go_wp2_with (go_at_call 85;refine HC.out.mono ?_);rintro e w2 ⟨rfl,hb2⟩;have HE:=hid (bt HB0.out (bt HB1.out hb2));clear hb2;go_wp2
   go_ret
   exact⟨rfl,HE.out⟩
  |some q=>
   have HVAL:iT l p=dM (pR l q):=by
    unfold iT;rw[hk,if_neg (by decide),if_neg (by decide),if_neg (by decide),if_neg (by decide),if_neg (by decide),if_pos (by decide),hq];rfl
   rw[hq,show a_ (some q)=(q:Int)from rfl]at HC;have hqn:q<n:=by rw[HPL.out.2];exact(lT hq).1
   have HPQ:=hid (λW (k:Below W1.heap.size W1 W)=>zf (HT1.out.below k) c q hqn);have hq0:¬(q:Int)<0:=by omega
   rw[HVAL];rw[hk]at hW1 ek HX1 x0;clear HVAL hk;clear hq hqn;clear HT1 HAFF HPL HRT HI HKID HROOT;generalize pR l q=pb at *
   generalize (ae l (p:Int)).n=nn at *
   generalize (ae l (p:Int)).pl=pl at *
   generalize (ae l (p:Int)).tx=tx at *
   generalize (ae l (p:Int)).ks.length=m at *
   go_enter Tryz.func84,Tryz.ntmps84
   go_wp2_with (go_at_call 85;refine HC.out.mono ?_);rintro e w2 ⟨rfl,hb2⟩;have HB2:=hid hb2;have v0:=((HX1.out.1.below hb2 HX1.out.1.lt).cell 0).trans rfl;have v1:=((HX1.out.1.below hb2 HX1.out.1.lt).cell 1).trans rfl;clear hb2 e0 e1 et es ek;go_wp2_with (go_at_call 93;refine(HPQ.out _ HB2.out).mono ?_);rintro e w3 ⟨rfl,hb3⟩;have HB3:=hid (bt HB2.out hb3);clear hb3;have HTO:=hid (λ(b:Bool)=>dS b w3);cases pb with
   |true=>
    go_wp2_with (go_at_call 149;refine(HTO.out true).mono ?_);rintro e w9 ⟨rfl,hb9⟩;have HE:=hid (bt HB0.out (bt HB1.out (bt HB3.out hb9)));clear hb9;go_wp2
    go_ret
    exact⟨rfl,HE.out⟩
   |false=>
    go_wp2_with (go_at_call 149;refine(HTO.out false).mono ?_);rintro e w9 ⟨rfl,hb9⟩;have HE:=hid (bt HB0.out (bt HB1.out (bt HB3.out hb9)));clear hb9;go_wp2
    go_ret
    exact⟨rfl,HE.out⟩
 ·have HVAL:iT l p=dM (kQ l p):=by
   unfold iT;rw[hk,if_neg (by decide),if_neg (by decide),if_neg (by decide),if_neg (by decide),if_neg (by decide),if_neg (by decide),if_pos (by decide)]
  have hop:=oQ HT1.out c p hp (by rw[hk];decide) K cK HI.out;rw[hk]at hop;have HC:=hid hop;clear hop;rw[HVAL];rw[hk]at hW1 ek HX1 x0;clear HVAL hk;clear HT1 HAFF HPL HRT HI HKID HROOT;generalize kQ l p=fb at *
  generalize (ae l (p:Int)).n=nn at *
  generalize (ae l (p:Int)).pl=pl at *
  generalize (ae l (p:Int)).tx=tx at *
  generalize (ae l (p:Int)).ks.length=m at *
  go_enter Tryz.func84,Tryz.ntmps84
  go_wp2_with (go_at_call 150;refine HC.out.mono ?_);rintro e w3 ⟨rfl,hb3⟩;have HB3:=hid hb3;clear hb3;have HTO:=hid (λ(b:Bool)=>dS b w3);cases fb with
  |true=>
   go_wp2_with (go_at_call 149;refine(HTO.out true).mono ?_);rintro e w9 ⟨rfl,hb9⟩;have HE:=hid (bt HB0.out (bt HB1.out (bt HB3.out hb9)));clear hb9;go_wp2
   go_ret
   exact⟨rfl,HE.out⟩
  |false=>
   go_wp2_with (go_at_call 149;refine(HTO.out false).mono ?_);rintro e w9 ⟨rfl,hb9⟩;have HE:=hid (bt HB0.out (bt HB1.out (bt HB3.out hb9)));clear hb9;go_wp2
   go_ret
   exact⟨rfl,HE.out⟩
 ·have HVAL:iT l p=dM (kQ l p):=by
   unfold iT;rw[hk,if_neg (by decide),if_neg (by decide),if_neg (by decide),if_neg (by decide),if_neg (by decide),if_neg (by decide),if_pos (by decide)]
  have hop:=oQ HT1.out c p hp (by rw[hk];decide) K cK HI.out;rw[hk]at hop;have HC:=hid hop;clear hop;rw[HVAL];rw[hk]at hW1 ek HX1 x0;clear HVAL hk;clear HT1 HAFF HPL HRT HI HKID HROOT;generalize kQ l p=fb at *
  generalize (ae l (p:Int)).n=nn at *
  generalize (ae l (p:Int)).pl=pl at *
  generalize (ae l (p:Int)).tx=tx at *
  generalize (ae l (p:Int)).ks.length=m at *
  go_enter Tryz.func84,Tryz.ntmps84
  go_wp2_with (go_at_call 150;refine HC.out.mono ?_);rintro e w3 ⟨rfl,hb3⟩;have HB3:=hid hb3;clear hb3;have HTO:=hid (λ(b:Bool)=>dS b w3);cases fb with
  |true=>
   go_wp2_with (go_at_call 149;refine(HTO.out true).mono ?_);rintro e w9 ⟨rfl,hb9⟩;have HE:=hid (bt HB0.out (bt HB1.out (bt HB3.out hb9)));clear hb9;go_wp2
   go_ret
   exact⟨rfl,HE.out⟩
  |false=>
   go_wp2_with (go_at_call 149;refine(HTO.out false).mono ?_);rintro e w9 ⟨rfl,hb9⟩;have HE:=hid (bt HB0.out (bt HB1.out (bt HB3.out hb9)));clear hb9;go_wp2
   go_ret
   exact⟨rfl,HE.out⟩
 ·obtain⟨k0,ks0,hks⟩:=HAFF.out.one (Or.inl hk);obtain⟨k,rfl,hki⟩:=HKID.out k0 (by rw[hks];simp);have hka:(dH l p 0).toNat=k:=by unfold dH;rw[hks];rfl
  have hkn:k<n:=by omega
  have HTY:=hid (λW (q:Below W1.heap.size W1 W)=>bJ (HT1.out.below q) c k hkn);have hI:=HI.out;obtain⟨bK,oK,rfl,hbK,hcK⟩:=hI (by rw[hks];simp);have ck0:=hcK 0 (by rw[hks];simp);have hml:0<(ae l p).ks.length:=by rw[hks];simp
  have ck:W1.cell? ⟨bK,oK,none⟩=some (.int .i64 (k:Int)):=by rw[show W1.cell? ⟨bK,oK,none⟩=_ from ck0];simp only[hks];rfl
  clear ck0;have hmz:(0:Int)<(((ae l p).ks.length:Nat):Int):=by omega
  have HVAL:iT l p=mG l p (aC l (dH l p 0).toNat) 0:=by
   unfold iT;rw[hk,if_neg (by decide),if_neg (by decide),if_neg (by decide),if_neg (by decide),if_neg (by decide),if_neg (by decide),if_neg (by decide),if_pos (by decide)]
  rw[hka]at HVAL;have HNM:=hid (λW (q:Below W1.heap.size W1 W)=>gD (HT1.out.below q) c p (aC l k) 0 hp);rw[HVAL];rw[hk]at hW1 ek HX1 x0;clear HVAL hk;clear hka hI hcK hki hkn hks hml;clear HT1 HAFF HPL HRT HI HKID HROOT;generalize mG l p (aC l k) 0=nz at *
  generalize aC l k=tq at *
  generalize (ae l (p:Int)).n=nn at *
  generalize (ae l (p:Int)).pl=pl at *
  generalize (ae l (p:Int)).tx=tx at *
  generalize (ae l (p:Int)).ks.length=m at *
  have s0:=cell_regrown e0;have s1:=cell_regrown e1;have s2:=cell_regrown es;have s3:=cell_regrown ck;have cq:∀d os,Calls Tryz.prog 95 #[.agg #[.slice (some ⟨bA,off,none⟩) n c,.int .i64 r],.int .i64 (k:Int)] (grow (redrawn W1 d) os) λe w''=>e=.returned (.int .i64 tq)/\∃p:Regrown,w''=grow (redrawn W1 p.d) p.os:=λd os=>Calls.regrown_of (HTY.out _ (below_regrown W1 d os))
  have cn:∀d os,Calls Tryz.prog 148 #[.agg #[.slice (some ⟨bA,off,none⟩) n c,.int .i64 r],.int .i64 (p:Int),.int .i64 tq,.int .i64 0] (grow (redrawn W1 d) os) λe w''=>e=.returned (.int .i64 nz)/\∃p:Regrown,w''=grow (redrawn W1 p.d) p.os:=λd os=>Calls.regrown_of (HNM.out _ (below_regrown W1 d os))
  go_enter Tryz.func84,Tryz.ntmps84
  go_upto_region 29 with(fail)
  refine wp_region_quiet_below (by kernel_rfl) (by kernel_rfl) ?_
  repeat (go_big_quiet_step (first|exact cq _ _ |exact cn _ _))
  refine wpQuiet_nil ?_;intro _ hw';obtain⟨⟨dq,osq⟩,hw''⟩:=hw';subst hw'';have hbq:=below_regrown W1 dq osq;generalize grow (redrawn W1 dq) osq=W4 at *
  have HE:=hid (bt HB0.out (bt HB1.out hbq));clear hbq cq cn;go_wp2
  go_ret
  exact⟨rfl,HE.out⟩
 ·obtain⟨k1,k0,ks0,hks⟩:=HAFF.out.two (hk);obtain⟨k,rfl,hki⟩:=HKID.out k0 (by rw[hks];simp);have hka:(dH l p 1).toNat=k:=by unfold dH;rw[hks];rfl
  have hkn:k<n:=by omega
  have HTY:=hid (λW (q:Below W1.heap.size W1 W)=>bJ (HT1.out.below q) c k hkn);have hI:=HI.out;obtain⟨bK,oK,rfl,hbK,hcK⟩:=hI (by rw[hks];simp);have ck0:=hcK 1 (by rw[hks];simp);have hml:1<(ae l p).ks.length:=by rw[hks];simp
  have ck:W1.cell? ⟨bK,oK+1,none⟩=some (.int .i64 (k:Int)):=by rw[show W1.cell? ⟨bK,oK+1,none⟩=_ from ck0];simp only[hks];rfl
  clear ck0;have hmz:(1:Int)<(((ae l p).ks.length:Nat):Int):=by omega
  have HVAL:iT l p=dM (decide (aC l (dH l p 1).toNat=1)):=by
   unfold iT;rw[hk,if_neg (by decide),if_neg (by decide),if_neg (by decide),if_neg (by decide),if_neg (by decide),if_neg (by decide),if_neg (by decide),if_neg (by decide),if_pos (by decide)]
  rw[hka]at HVAL;rw[HVAL];rw[hk]at hW1 ek HX1 x0;clear HVAL hk;clear hka hI hcK hki hkn hks hml;clear HT1 HAFF HPL HRT HI HKID HROOT;generalize aC l k=tq at *
  generalize (ae l (p:Int)).n=nn at *
  generalize (ae l (p:Int)).pl=pl at *
  generalize (ae l (p:Int)).tx=tx at *
  generalize (ae l (p:Int)).ks.length=m at *
  have s0:=cell_regrown e0;have s1:=cell_regrown e1;have s2:=cell_regrown es;have s3:=cell_regrown ck;have cq:∀d os,Calls Tryz.prog 95 #[.agg #[.slice (some ⟨bA,off,none⟩) n c,.int .i64 r],.int .i64 (k:Int)] (grow (redrawn W1 d) os) λe w''=>e=.returned (.int .i64 tq)/\∃p:Regrown,w''=grow (redrawn W1 p.d) p.os:=λd os=>Calls.regrown_of (HTY.out _ (below_regrown W1 d os))
  by_cases ht:tq=1
  ·have h1:(tq==1)=true:=by simp[ht]
   rw[decide_eq_true ht,show dM true=0 from rfl];clear ht;have ct:∀d os,Calls Tryz.prog 149 #[.bool true] (grow (redrawn W1 d) os) λe w''=>e=.returned (.int .i64 0)/\∃p:Regrown,w''=grow (redrawn W1 p.d) p.os:=λd os=>Calls.regrown_of (dS true _)
   go_enter Tryz.func84,Tryz.ntmps84
   go_upto_region 31 with(fail)
   refine wp_region_quiet_below (by kernel_rfl) (by kernel_rfl) ?_
   repeat (go_big_quiet_step (first|exact cq _ _ |exact ct _ _))
   refine wpQuiet_nil ?_;intro _ hw';obtain⟨⟨dq,osq⟩,hw''⟩:=hw';subst hw'';have hbq:=below_regrown W1 dq osq;generalize grow (redrawn W1 dq) osq=W4 at *
   have HE:=hid (bt HB0.out (bt HB1.out hbq));clear hbq cq ct;go_wp2
   go_ret
   exact⟨rfl,HE.out⟩
  ·have h1:(tq==1)=false:=beq_eq_false_iff_ne.2 ht;rw[decide_eq_false ht,show dM false=5 from rfl];clear ht;have ct:∀d os,Calls Tryz.prog 149 #[.bool false] (grow (redrawn W1 d) os) λe w''=>e=.returned (.int .i64 5)/\∃p:Regrown,w''=grow (redrawn W1 p.d) p.os:=λd os=>Calls.regrown_of (dS false _)
   go_enter Tryz.func84,Tryz.ntmps84
   go_upto_region 31 with(fail)
   refine wp_region_quiet_below (by kernel_rfl) (by kernel_rfl) ?_
   repeat (go_big_quiet_step (first|exact cq _ _ |exact ct _ _))
   refine wpQuiet_nil ?_;intro _ hw';obtain⟨⟨dq,osq⟩,hw''⟩:=hw';subst hw'';have hbq:=below_regrown W1 dq osq;generalize grow (redrawn W1 dq) osq=W4 at *
   have HE:=hid (bt HB0.out (bt HB1.out hbq));clear hbq cq ct;go_wp2
   go_ret
   exact⟨rfl,HE.out⟩
 ·obtain⟨k0,ks0,hks⟩:=HAFF.out.one (by omega);obtain⟨k,rfl,hki⟩:=HKID.out k0 (by rw[hks];simp);have hka:(dH l p 0).toNat=k:=by unfold dH;rw[hks];rfl
  have hkn:k<n:=by omega
  have HTY:=hid (λW (q:Below W1.heap.size W1 W)=>bJ (HT1.out.below q) c k hkn);have hI:=HI.out;obtain⟨bK,oK,rfl,hbK,hcK⟩:=hI (by rw[hks];simp);have ck0:=hcK 0 (by rw[hks];simp);have hml:0<(ae l p).ks.length:=by rw[hks];simp
  have ck:W1.cell? ⟨bK,oK,none⟩=some (.int .i64 (k:Int)):=by rw[show W1.cell? ⟨bK,oK,none⟩=_ from ck0];simp only[hks];rfl
  clear ck0;have hmz:(0:Int)<(((ae l p).ks.length:Nat):Int):=by omega
  have HVAL:iT l p=dM (decide (aC l (dH l p 0).toNat=1)):=by
   unfold iT;rw[hk,if_neg (by decide),if_neg (by decide),if_neg (by decide),if_neg (by decide),if_neg (by decide),if_neg (by decide),if_neg (by decide),if_neg (by decide),if_neg (by decide),if_pos (by decide)]
  rw[hka]at HVAL;rw[HVAL];rw[hk]at hW1 ek HX1 x0;clear HVAL hk;clear hka hI hcK hki hkn hks hml;clear HT1 HAFF HPL HRT HI HKID HROOT;generalize aC l k=tq at *
  generalize (ae l (p:Int)).n=nn at *
  generalize (ae l (p:Int)).pl=pl at *
  generalize (ae l (p:Int)).tx=tx at *
  generalize (ae l (p:Int)).ks.length=m at *
  have s0:=cell_regrown e0;have s1:=cell_regrown e1;have s2:=cell_regrown es;have s3:=cell_regrown ck;have cq:∀d os,Calls Tryz.prog 95 #[.agg #[.slice (some ⟨bA,off,none⟩) n c,.int .i64 r],.int .i64 (k:Int)] (grow (redrawn W1 d) os) λe w''=>e=.returned (.int .i64 tq)/\∃p:Regrown,w''=grow (redrawn W1 p.d) p.os:=λd os=>Calls.regrown_of (HTY.out _ (below_regrown W1 d os))
  by_cases ht:tq=1
  ·have h1:(tq==1)=true:=by simp[ht]
   rw[decide_eq_true ht,show dM true=0 from rfl];clear ht;have ct:∀d os,Calls Tryz.prog 149 #[.bool true] (grow (redrawn W1 d) os) λe w''=>e=.returned (.int .i64 0)/\∃p:Regrown,w''=grow (redrawn W1 p.d) p.os:=λd os=>Calls.regrown_of (dS true _)
   go_enter Tryz.func84,Tryz.ntmps84
   go_upto_region 33 with(fail)
   refine wp_region_quiet_below (by kernel_rfl) (by kernel_rfl) ?_
   repeat (go_big_quiet_step (first|exact cq _ _ |exact ct _ _))
   refine wpQuiet_nil ?_;intro _ hw';obtain⟨⟨dq,osq⟩,hw''⟩:=hw';subst hw'';have hbq:=below_regrown W1 dq osq;generalize grow (redrawn W1 dq) osq=W4 at *
   have HE:=hid (bt HB0.out (bt HB1.out hbq));clear hbq cq ct;go_wp2
   go_ret
   exact⟨rfl,HE.out⟩
  ·have h1:(tq==1)=false:=beq_eq_false_iff_ne.2 ht;rw[decide_eq_false ht,show dM false=5 from rfl];clear ht;have ct:∀d os,Calls Tryz.prog 149 #[.bool false] (grow (redrawn W1 d) os) λe w''=>e=.returned (.int .i64 5)/\∃p:Regrown,w''=grow (redrawn W1 p.d) p.os:=λd os=>Calls.regrown_of (dS false _)
   go_enter Tryz.func84,Tryz.ntmps84
   go_upto_region 33 with(fail)
   refine wp_region_quiet_below (by kernel_rfl) (by kernel_rfl) ?_
   repeat (go_big_quiet_step (first|exact cq _ _ |exact ct _ _))
   refine wpQuiet_nil ?_;intro _ hw';obtain⟨⟨dq,osq⟩,hw''⟩:=hw';subst hw'';have hbq:=below_regrown W1 dq osq;generalize grow (redrawn W1 dq) osq=W4 at *
   have HE:=hid (bt HB0.out (bt HB1.out hbq));clear hbq cq ct;go_wp2
   go_ret
   exact⟨rfl,HE.out⟩
 ·obtain⟨k0,ks0,hks⟩:=HAFF.out.one (by omega);obtain⟨k,rfl,hki⟩:=HKID.out k0 (by rw[hks];simp);have hka:(dH l p 0).toNat=k:=by unfold dH;rw[hks];rfl
  have hkn:k<n:=by omega
  have HTY:=hid (λW (q:Below W1.heap.size W1 W)=>bJ (HT1.out.below q) c k hkn);have hI:=HI.out;obtain⟨bK,oK,rfl,hbK,hcK⟩:=hI (by rw[hks];simp);have ck0:=hcK 0 (by rw[hks];simp);have hml:0<(ae l p).ks.length:=by rw[hks];simp
  have ck:W1.cell? ⟨bK,oK,none⟩=some (.int .i64 (k:Int)):=by rw[show W1.cell? ⟨bK,oK,none⟩=_ from ck0];simp only[hks];rfl
  clear ck0;have hmz:(0:Int)<(((ae l p).ks.length:Nat):Int):=by omega
  have HVAL:iT l p=dM (decide (aC l (dH l p 0).toNat=2)):=by
   unfold iT;rw[hk,if_neg (by decide),if_neg (by decide),if_neg (by decide),if_neg (by decide),if_neg (by decide),if_neg (by decide),if_neg (by decide),if_neg (by decide),if_neg (by decide),if_neg (by decide),if_pos (by decide)]
  rw[hka]at HVAL;rw[HVAL];rw[hk]at hW1 ek HX1 x0;clear HVAL hk;clear hka hI hcK hki hkn hks hml;clear HT1 HAFF HPL HRT HI HKID HROOT;generalize aC l k=tq at *
  generalize (ae l (p:Int)).n=nn at *
  generalize (ae l (p:Int)).pl=pl at *
  generalize (ae l (p:Int)).tx=tx at *
  generalize (ae l (p:Int)).ks.length=m at *
  have s0:=cell_regrown e0;have s1:=cell_regrown e1;have s2:=cell_regrown es;have s3:=cell_regrown ck;have cq:∀d os,Calls Tryz.prog 95 #[.agg #[.slice (some ⟨bA,off,none⟩) n c,.int .i64 r],.int .i64 (k:Int)] (grow (redrawn W1 d) os) λe w''=>e=.returned (.int .i64 tq)/\∃p:Regrown,w''=grow (redrawn W1 p.d) p.os:=λd os=>Calls.regrown_of (HTY.out _ (below_regrown W1 d os))
  by_cases ht:tq=2
  ·have h1:(tq==2)=true:=by simp[ht]
   rw[decide_eq_true ht,show dM true=0 from rfl];clear ht;have ct:∀d os,Calls Tryz.prog 149 #[.bool true] (grow (redrawn W1 d) os) λe w''=>e=.returned (.int .i64 0)/\∃p:Regrown,w''=grow (redrawn W1 p.d) p.os:=λd os=>Calls.regrown_of (dS true _)
   go_enter Tryz.func84,Tryz.ntmps84
   go_upto_region 36 with(fail)
   refine wp_region_quiet_below (by kernel_rfl) (by kernel_rfl) ?_
   repeat (go_big_quiet_step (first|exact cq _ _ |exact ct _ _))
   refine wpQuiet_nil ?_;intro _ hw';obtain⟨⟨dq,osq⟩,hw''⟩:=hw';subst hw'';have hbq:=below_regrown W1 dq osq;generalize grow (redrawn W1 dq) osq=W4 at *
   have HE:=hid (bt HB0.out (bt HB1.out hbq));clear hbq cq ct;go_wp2
   go_ret
   exact⟨rfl,HE.out⟩
  ·have h1:(tq==2)=false:=beq_eq_false_iff_ne.2 ht;rw[decide_eq_false ht,show dM false=5 from rfl];clear ht;have ct:∀d os,Calls Tryz.prog 149 #[.bool false] (grow (redrawn W1 d) os) λe w''=>e=.returned (.int .i64 5)/\∃p:Regrown,w''=grow (redrawn W1 p.d) p.os:=λd os=>Calls.regrown_of (dS false _)
   go_enter Tryz.func84,Tryz.ntmps84
   go_upto_region 36 with(fail)
   refine wp_region_quiet_below (by kernel_rfl) (by kernel_rfl) ?_
   repeat (go_big_quiet_step (first|exact cq _ _ |exact ct _ _))
   refine wpQuiet_nil ?_;intro _ hw';obtain⟨⟨dq,osq⟩,hw''⟩:=hw';subst hw'';have hbq:=below_regrown W1 dq osq;generalize grow (redrawn W1 dq) osq=W4 at *
   have HE:=hid (bt HB0.out (bt HB1.out hbq));clear hbq cq ct;go_wp2
   go_ret
   exact⟨rfl,HE.out⟩
 ·obtain⟨k0,ks0,hks⟩:=HAFF.out.one (by omega);obtain⟨k,rfl,hki⟩:=HKID.out k0 (by rw[hks];simp);have hka:(dH l p 0).toNat=k:=by unfold dH;rw[hks];rfl
  have hkn:k<n:=by omega
  have HTY:=hid (λW (q:Below W1.heap.size W1 W)=>bJ (HT1.out.below q) c k hkn);have hI:=HI.out;obtain⟨bK,oK,rfl,hbK,hcK⟩:=hI (by rw[hks];simp);have ck0:=hcK 0 (by rw[hks];simp);have hml:0<(ae l p).ks.length:=by rw[hks];simp
  have ck:W1.cell? ⟨bK,oK,none⟩=some (.int .i64 (k:Int)):=by rw[show W1.cell? ⟨bK,oK,none⟩=_ from ck0];simp only[hks];rfl
  clear ck0;have hmz:(0:Int)<(((ae l p).ks.length:Nat):Int):=by omega
  have HVAL:iT l p=dM (decide (aC l (dH l p 0).toNat=2)):=by
   unfold iT;rw[hk,if_neg (by decide),if_neg (by decide),if_neg (by decide),if_neg (by decide),if_neg (by decide),if_neg (by decide),if_neg (by decide),if_neg (by decide),if_neg (by decide),if_neg (by decide),if_pos (by decide)]
  rw[hka]at HVAL;rw[HVAL];rw[hk]at hW1 ek HX1 x0;clear HVAL hk;clear hka hI hcK hki hkn hks hml;clear HT1 HAFF HPL HRT HI HKID HROOT;generalize aC l k=tq at *
  generalize (ae l (p:Int)).n=nn at *
  generalize (ae l (p:Int)).pl=pl at *
  generalize (ae l (p:Int)).tx=tx at *
  generalize (ae l (p:Int)).ks.length=m at *
  have s0:=cell_regrown e0;have s1:=cell_regrown e1;have s2:=cell_regrown es;have s3:=cell_regrown ck;have cq:∀d os,Calls Tryz.prog 95 #[.agg #[.slice (some ⟨bA,off,none⟩) n c,.int .i64 r],.int .i64 (k:Int)] (grow (redrawn W1 d) os) λe w''=>e=.returned (.int .i64 tq)/\∃p:Regrown,w''=grow (redrawn W1 p.d) p.os:=λd os=>Calls.regrown_of (HTY.out _ (below_regrown W1 d os))
  by_cases ht:tq=2
  ·have h1:(tq==2)=true:=by simp[ht]
   rw[decide_eq_true ht,show dM true=0 from rfl];clear ht;have ct:∀d os,Calls Tryz.prog 149 #[.bool true] (grow (redrawn W1 d) os) λe w''=>e=.returned (.int .i64 0)/\∃p:Regrown,w''=grow (redrawn W1 p.d) p.os:=λd os=>Calls.regrown_of (dS true _)
   go_enter Tryz.func84,Tryz.ntmps84
   go_upto_region 36 with(fail)
   refine wp_region_quiet_below (by kernel_rfl) (by kernel_rfl) ?_
   repeat (go_big_quiet_step (first|exact cq _ _ |exact ct _ _))
   refine wpQuiet_nil ?_;intro _ hw';obtain⟨⟨dq,osq⟩,hw''⟩:=hw';subst hw'';have hbq:=below_regrown W1 dq osq;generalize grow (redrawn W1 dq) osq=W4 at *
   have HE:=hid (bt HB0.out (bt HB1.out hbq));clear hbq cq ct;go_wp2
   go_ret
   exact⟨rfl,HE.out⟩
  ·have h1:(tq==2)=false:=beq_eq_false_iff_ne.2 ht;rw[decide_eq_false ht,show dM false=5 from rfl];clear ht;have ct:∀d os,Calls Tryz.prog 149 #[.bool false] (grow (redrawn W1 d) os) λe w''=>e=.returned (.int .i64 5)/\∃p:Regrown,w''=grow (redrawn W1 p.d) p.os:=λd os=>Calls.regrown_of (dS false _)
   go_enter Tryz.func84,Tryz.ntmps84
   go_upto_region 36 with(fail)
   refine wp_region_quiet_below (by kernel_rfl) (by kernel_rfl) ?_
   repeat (go_big_quiet_step (first|exact cq _ _ |exact ct _ _))
   refine wpQuiet_nil ?_;intro _ hw';obtain⟨⟨dq,osq⟩,hw''⟩:=hw';subst hw'';have hbq:=below_regrown W1 dq osq;generalize grow (redrawn W1 dq) osq=W4 at *
   have HE:=hid (bt HB0.out (bt HB1.out hbq));clear hbq cq ct;go_wp2
   go_ret
   exact⟨rfl,HE.out⟩
 ·have HVAL:iT l p=su l p:=by
   unfold iT;rw[hk,if_neg (by decide),if_neg (by decide),if_neg (by decide),if_neg (by decide),if_neg (by decide),if_neg (by decide),if_neg (by decide),if_neg (by decide),if_neg (by decide),if_neg (by decide),if_neg (by decide),if_pos (by decide)]
  have HC:=hid (Bv HT1.out c p hp hk);rw[HVAL];rw[hk]at hW1 ek HX1 x0;clear HVAL hk;clear HT1 HAFF HPL HRT HI HKID HROOT;generalize su l p=cz at *
  generalize (ae l (p:Int)).n=nn at *
  generalize (ae l (p:Int)).pl=pl at *
  generalize (ae l (p:Int)).tx=tx at *
  generalize (ae l (p:Int)).ks.length=m at *
  go_enter Tryz.func84,Tryz.ntmps84
  go_wp2_with (go_at_call 151;refine HC.out.mono ?_);rintro e w2 ⟨rfl,hb2⟩;have HE:=hid (bt HB0.out (bt HB1.out hb2));clear hb2;go_wp2
  go_ret
  exact⟨rfl,HE.out⟩
 ·have HVAL:iT l p=EQ l p:=by
   unfold iT;rw[hk,if_neg (by decide),if_neg (by decide),if_neg (by decide),if_neg (by decide),if_neg (by decide),if_neg (by decide),if_neg (by decide),if_neg (by decide),if_neg (by decide),if_neg (by decide),if_neg (by decide),if_neg (by decide),if_pos (by decide)]
  obtain⟨q,how,_,hql,_⟩:=HRT.out.owns HPL.out.1 (by omega);have hqn:q<n:=by rw[HPL.out.2];exact hql
  have hqz:(q:Int)<(n:Int):=by omega
  have hOW:=λW (k:Below W1.heap.size W1 W)=>nG (HT1.out.below k) c p hp
  rw[how]at hOW;have HOW:=hid hOW;obtain⟨bB,off2,_,_,e3,yt,_,y1,_⟩:=HT1.out.node hqn;cases e3;have HY:=hid (And.intro yt y1);unfold EQ at HVAL;rw[how]at HVAL;have cq:∀d os,Calls Tryz.prog 88 #[.agg #[.slice (some ⟨bA,off,none⟩) n c,.int .i64 r],.int .i64 (p:Int)] (grow (redrawn W1 d) os) λe w''=>e=.returned (.int .i64 (q:Int))/\∃p:Regrown,w''=grow (redrawn W1 p.d) p.os:=λd os=>Calls.regrown_of (HOW.out _ (below_regrown W1 d os))
  have s0:=cell_regrown e0;have s1:=cell_regrown e1;have s2:=cell_regrown y1;clear how hql hOW yt y1;by_cases hnil:(ae l p).ks=[]
  ·rw[if_pos hnil]at HVAL;rw[HVAL];rw[hk]at hW1 ek HX1 x0;rw[hnil,show([]:List Int).length=0 from rfl]at hW1 es HX1 x4;clear HVAL hk hnil hqn;clear HT1 HAFF HPL HRT HI HKID HROOT;generalize (ae l (q:Int)).n=an at *
   generalize (ae l (p:Int)).n=nn at *
   generalize (ae l (p:Int)).pl=pl at *
   generalize (ae l (p:Int)).tx=tx at *
   go_enter Tryz.func84,Tryz.ntmps84
   go_upto_region 40 with(fail)
   refine wp_region_quiet_below (by kernel_rfl) (by kernel_rfl) ?_
   repeat (go_big_quiet_step (first|exact cq _ _))
   refine wpQuiet_nil ?_;intro _ hw';obtain⟨⟨dq,osq⟩,hw''⟩:=hw';subst hw'';have hbq:=below_regrown W1 dq osq;generalize grow (redrawn W1 dq) osq=W4 at *
   have HB4:=hid hbq;have vs:=((HX1.out.2.below hbq HX1.out.2.lt).cell 4).trans rfl;clear hbq cq s0 s1 s2;have HTO:=hid (λ(b:Bool)=>dS b W4);by_cases ha:an=0
   ·have h1:(an==0)=true:=by simp[ha]
    have HA:=hid ha;clear ha;go_wp2_with (go_at_call 149;refine(HTO.out true).mono ?_);rintro e w9 ⟨rfl,hb9⟩;have HE:=hid (bt HB0.out (bt HB1.out (bt HB4.out hb9)));clear hb9;go_wp2
    go_ret
    exact⟨by rw[decide_eq_true HA.out];try rfl,HE.out⟩
   ·have h1:(an==0)=false:=beq_eq_false_iff_ne.2 ha;have HA:=hid ha;clear ha;go_wp2_with (go_at_call 149;refine(HTO.out false).mono ?_);rintro e w9 ⟨rfl,hb9⟩;have HE:=hid (bt HB0.out (bt HB1.out (bt HB4.out hb9)));clear hb9;go_wp2
    go_ret
    exact⟨by rw[decide_eq_false HA.out];try rfl,HE.out⟩
  ·rw[if_neg hnil]at HVAL;obtain⟨k0,ks0,hks⟩:∃k ks,(ae l p).ks=k :: ks:=by
    match e:(ae l p).ks,hnil with
    |k :: ks,_=>exact⟨k,ks,rfl⟩
   obtain⟨k,rfl,hki⟩:=HKID.out k0 (by rw[hks];simp);have hka:(dH l p 0).toNat=k:=by unfold dH;rw[hks];rfl
   have hkn:k<n:=by omega
   have HTY:=hid (λW (q:Below W1.heap.size W1 W)=>bJ (HT1.out.below q) c k hkn);have hI:=HI.out;obtain⟨bK,oK,rfl,hbK,hcK⟩:=hI (by rw[hks];simp);have ck0:=hcK 0 (by rw[hks];simp);have ck:W1.cell? ⟨bK,oK,none⟩=some (.int .i64 (k:Int)):=by rw[show W1.cell? ⟨bK,oK,none⟩=_ from ck0];simp only[hks];rfl
   clear ck0;have HCK:=hid (And.intro hbK ck);have hml:0<(ae l p).ks.length:=by rw[hks];simp
   have hmz:(0:Int)<(((ae l p).ks.length:Nat):Int):=by omega
   have hmn:((((ae l p).ks.length:Nat):Int)==0)=false:=beq_eq_false_iff_ne.2 (by omega);rw[hka]at HVAL;rw[HVAL];rw[hk]at hW1 ek HX1 x0;clear HVAL hk hnil hqn hka hI hcK hki hkn hks hml hbK ck;clear HT1 HAFF HPL HRT HI HKID HROOT;generalize aC l k=tq at *
   generalize (ae l (q:Int)).n=an at *
   generalize (ae l (p:Int)).n=nn at *
   generalize (ae l (p:Int)).pl=pl at *
   generalize (ae l (p:Int)).tx=tx at *
   generalize (ae l (p:Int)).ks.length=m at *
   go_enter Tryz.func84,Tryz.ntmps84
   go_upto_region 40 with(fail)
   refine wp_region_quiet_below (by kernel_rfl) (by kernel_rfl) ?_
   repeat (go_big_quiet_step (first|exact cq _ _))
   refine wpQuiet_nil ?_;intro _ hw';obtain⟨⟨dq,osq⟩,hw''⟩:=hw';subst hw'';have hbq:=below_regrown W1 dq osq;generalize grow (redrawn W1 dq) osq=W4 at *
   have HB4:=hid hbq;have v0:=((HX1.out.1.below hbq HX1.out.1.lt).cell 0).trans rfl;have v1:=((HX1.out.1.below hbq HX1.out.1.lt).cell 1).trans rfl;have vs:=((HX1.out.2.below hbq HX1.out.2.lt).cell 4).trans rfl;have vk:=(hbq.cell (p:=⟨bK,oK,none⟩) HCK.out.1).trans HCK.out.2;clear cq s0 s1 s2;have s0:=cell_regrown v0;have s1:=cell_regrown v1;have s2:=cell_regrown vs;have s3:=cell_regrown vk;have cq:∀d os,Calls Tryz.prog 95 #[.agg #[.slice (some ⟨bA,off,none⟩) n c,.int .i64 r],.int .i64 (k:Int)] (grow (redrawn W4 d) os) λe w''=>e=.returned (.int .i64 tq)/\∃p:Regrown,w''=grow (redrawn W4 p.d) p.os:=λd os=>Calls.regrown_of (HTY.out _ (bt HB4.out (below_regrown W4 d os)))
   have ct:∀(b:Bool) d os,Calls Tryz.prog 149 #[.bool b] (grow (redrawn W4 d) os) λe w''=>e=.returned (.int .i64 (dM b))/\∃p:Regrown,w''=grow (redrawn W4 p.d) p.os:=λb d os=>Calls.regrown_of (dS b _)
   clear hbq v0 v1 vk;by_cases ha:an=0
   ·subst ha;have HVX:=hid (show(decide ((0:Int)≠0)&&decide (tq=0))=false by simp);have ctb:=ct false
    go_upto_region 43 with(fail)
    refine wp_region_quiet_below (by kernel_rfl) (by kernel_rfl) ?_
    repeat (go_big_quiet_step (first|exact cq _ _ |exact ctb _ _))
    refine wpQuiet_nil ?_;intro _ hw';obtain⟨⟨dq,osq⟩,hw''⟩:=hw';subst hw'';have hbr:=below_regrown W4 dq osq;generalize grow (redrawn W4 dq) osq=W6 at *
    have HE:=hid (bt HB0.out (bt HB1.out (bt HB4.out hbr)));clear hbr cq ct ctb;go_wp2
    go_ret
    exact⟨by rw[HVX.out];try rfl,HE.out⟩
   ·have h1:(an != 0)=true:=by simp[ha]
    by_cases ht:tq=an
    ·have h2:(tq==an)=true:=by simp[ht]
     have HVX:=hid (show(decide (an≠0)&&decide (tq=an))=true by simp[ha,ht]);clear ha ht;have ctb:=ct true
     go_upto_region 43 with(fail)
     refine wp_region_quiet_below (by kernel_rfl) (by kernel_rfl) ?_
     repeat (go_big_quiet_step (first|exact cq _ _ |exact ctb _ _))
     refine wpQuiet_nil ?_;intro _ hw';obtain⟨⟨dq,osq⟩,hw''⟩:=hw';subst hw'';have hbr:=below_regrown W4 dq osq;generalize grow (redrawn W4 dq) osq=W6 at *
     have HE:=hid (bt HB0.out (bt HB1.out (bt HB4.out hbr)));clear hbr cq ct ctb;go_wp2
     go_ret
     exact⟨by rw[HVX.out];try rfl,HE.out⟩
    ·have h2:(tq==an)=false:=beq_eq_false_iff_ne.2 ht;have HVX:=hid (show(decide (an≠0)&&decide (tq=an))=false by simp[ht]);clear ha ht;have ctb:=ct false
     go_upto_region 43 with(fail)
     refine wp_region_quiet_below (by kernel_rfl) (by kernel_rfl) ?_
     repeat (go_big_quiet_step (first|exact cq _ _ |exact ctb _ _))
     refine wpQuiet_nil ?_;intro _ hw';obtain⟨⟨dq,osq⟩,hw''⟩:=hw';subst hw'';have hbr:=below_regrown W4 dq osq;generalize grow (redrawn W4 dq) osq=W6 at *
     have HE:=hid (bt HB0.out (bt HB1.out (bt HB4.out hbr)));clear hbr cq ct ctb;go_wp2
     go_ret
     exact⟨by rw[HVX.out];try rfl,HE.out⟩
 ·have HVAL:iT l p=0:=by
   simp only[beq_eq_false_iff_ne]at hk;unfold iT;rw[if_neg (by omega),if_neg (by omega),if_neg (by omega),if_neg (by omega),if_neg (by omega),if_neg (by omega),if_neg (by omega),if_neg (by omega),if_neg (by omega),if_neg (by omega),if_neg (by omega),if_neg (by omega),if_neg (by omega)]
  rw[HVAL];clear HVAL;obtain⟨f2,f3,f4,f5,f22,f23,f8,f17,f24,f9,f16,f25,f26,f27,f7,f10,f15,f11,f12,f13,f14⟩:=hk;clear HT1 HAFF HPL HRT HI HKID HROOT;generalize (ae l (p:Int)).kd=kd at *
  generalize (ae l (p:Int)).n=nn at *
  generalize (ae l (p:Int)).pl=pl at *
  generalize (ae l (p:Int)).tx=tx at *
  generalize (ae l (p:Int)).ks.length=m at *
  go_enter Tryz.func84,Tryz.ntmps84
  go_wp2
  go_ret
  exact⟨rfl,bt HB0.out HB1.out⟩
end
end
section
open Go Go.RowKit Go.Sort
open Tr (Bx ag bt bu Ints aG au fT par gL fK eY qp aA gJ)
section
variable {w:World} {l:List Tr.Nd} {A:Option Addr} {n:Nat} {r:Int}
theorem zg (h:TT w A n l)(c:Nat)(r:Int):Calls Tryz.prog 37 #[.agg #[.slice A n c,.int .i64 r]] w (aG (.tuple #[.int .i64 (oG l r).1,.int .i64 (oG l r).2]) w):=by
 have hb0:=ag w (.cells #[.slice A n c,.int .i64 r] 25);have HX:=hid (Bx.new w 25 [.slice A n c,.int .i64 r]);have HB0:=hid hb0;have HT:=hid (h.below hb0);obtain⟨W0,hW0⟩:∃W0,w.alloc (.cells #[.slice A n c,.int .i64 r] 25)=W0:=⟨_,rfl⟩;rw[hW0]at HX HB0 HT;clear h hb0;have HRG:=hid (Tr.za A c n l r W0 HT.out.nds HT.out.len HT.out.kids HT.out.text);have a0:=(HX.out.cell 0).trans rfl;have a1:=(HX.out.cell 1).trans rfl;unfold oG;cases hr:fT l r with
 |false=>
  rw[hr]at HRG;rw[if_neg (by decide)];clear hr;go_enter Tryz.func37,Tryz.ntmps37
  go_wp2_with (go_at_call 62;refine HRG.out.mono ?_);rintro e w1 ⟨rfl,hb1⟩;have HE:=hid (bt HB0.out hb1);clear hb1;go_wp2;exact bodyPost_ret (v :=.tuple #[.int .i64 0,.int .i64 1]) (by simp[results,Tryz.f37,go_sem]) rfl ⟨rfl,HE.out⟩
 |true=>
  rw[hr]at HRG;rw[if_pos rfl];have HRT0:=hid (show∀W,Below W0.heap.size W0 W->RT W A n l r from λW q=>⟨HT.out.below q,hr⟩);obtain⟨b,hRT⟩:=(p8 hr).1;have HRT:=hid hRT;have HLN:=hid HT.out.len;have HROOT:=hid (And.intro (HRT0.out W0 (Below.refl _ _)).root (show l.length-1<n by have:=hRT.len;rw[HLN.out];omega));have hn4:n<=4000:=(HRT0.out W0 (Below.refl _ _)).few;have hn1:0<n:=by rw[HLN.out];exact hRT.len
  obtain⟨bA0,off0,k0,c0,rfl,n0,n1,n2,n3,n4,n5,n6⟩:=(HRT0.out W0 (Below.refl _ _)).node hn1;clear hr hRT HT n0 n1 n2 n3 n4 n5 n6 hn1;go_enter Tryz.func37,Tryz.ntmps37
  go_wp2_with (go_at_call 62;refine HRG.out.mono ?_);rintro e w1 ⟨rfl,hb1⟩;have HB1:=hid hb1;have HX1:=hid (HX.out.below hb1 HX.out.lt);clear hb1 a0 a1 HRG HX hW0;go_wp2
  go_loopg [5] n (λg v wr=>∃i:Nat,v=.int .i64 (i:Int)/\i<=n/\g=n-i/\(∀j,j<i->iR l j=0)/\Below w1.heap.size w1 wr)
  case atStart=>exact⟨0,rfl,Nat.zero_le _,rfl,λj hj=>absurd hj (Nat.not_lt_zero _),Below.refl _ _⟩
  case round=>
   obtain⟨i,rfl,hi,rfl,ht,hb⟩:=hrel;have HB:=hid hb;have HE:=hid ht;have a0:=((HX1.out.below hb HX1.out.lt).cell 0).trans rfl;have a1:=((HX1.out.below hb HX1.out.lt).cell 1).trans rfl;clear ht;by_cases hlt:i<n
   ·have hlz:(i:Int)<(n:Int):=by omega
    have hil:i<l.length:=by rw[<- HLN.out];exact hlt
    have hC:=Bw (HRT0.out _ (bt HB1.out hb)) c i hlt;rw[HRT.out.wrong hil HE.out]at hC;have HC:=hid hC;have HIL:=hid hil;obtain⟨fz,hfz⟩:∃fz,iR l i=fz:=⟨_,rfl⟩;rw[hfz]at HC;have HFZ:=hid hfz;clear hC hfz hil hb;by_cases hz:fz=0
    ·subst hz;go_wp2_with (go_at_call 84;refine HC.out.mono ?_);rintro e w3 ⟨rfl,hb3⟩;have HB3:=hid (bt HB.out hb3);clear hb3;go_wp2
     go_roundg (n-(i+1))
     case measure=>go_light;omega
     case rel=>
      go_light
      exact⟨i+1,by go_num,by omega,rfl,λj hj=>by rcases Nat.lt_or_eq_of_le (Nat.le_of_lt_succ hj)with e |e;exact HE.out j e;rw[e];exact HFZ.out,HB3.out⟩
    ·have hzn:(fz != 0)=true:=by simp[hz]
     have HRS:=hid (show nC l r=((i:Int),fz) by
      unfold nC
      rw[vg (Nat.zero_le i) HIL.out (by simp[HFZ.out,hz]) (λj _ hj=>by simp[HE.out j hj])]
      show((i:Int),iR l i)=_
      rw[HFZ.out])
     clear hz;go_wp2_with (go_at_call 84;refine HC.out.mono ?_);rintro e w3 ⟨rfl,hb3⟩;have HB3:=hid (bt HB.out hb3);clear hb3;go_wp2;exact bodyPost_ret (v :=.tuple #[.int .i64 (i:Int),.int .i64 fz]) (by simp[results,Tryz.f37,go_sem]) rfl ⟨by rw[HRS.out];try rfl,bt HB0.out (bt HB1.out HB3.out)⟩
   ·have hlz:¬(i:Int)<(n:Int):=by omega
    have HN0:=hid (show iH (λp => !decide (iR l p=0)) 0 l.length=none by
     cases e:iH (λp => !decide (iR l p=0)) 0 l.length with
     |none=>rfl
     |some q=>
      obtain⟨_,h2,h3,_⟩:=dQ e
      have h4:=HE.out q (by have:=HLN.out;omega)
      simp[h4]at h3)
    have hRw:=HRT0.out _ (bt HB1.out hb);have hof:=nH hRw c (l.length-1) HROOT.out.2 3 3 ⟨#[109,97,105,110]⟩;rw[HRT.out.of33,<- HROOT.out.1]at hof;have HC:=hid hof;clear hof hRw;obtain⟨W2,rfl⟩:∃W2,W2=wr:=⟨_,rfl⟩;cases hq:ic l ⟨#[109,97,105,110]⟩ 0 with
    |none=>
     rw[hq,show a_ none = -1 from rfl]at HC;have HRS:=hid (show nC l r=(r,11)by unfold nC wV;rw[HN0.out,hq];rfl);clear hq;go_wp2_with (go_at_call 85;refine HC.out.mono ?_);rintro e w3 ⟨rfl,hb3⟩;have v1:=((HX1.out.below (bt HB.out hb3) HX1.out.lt).cell 1).trans rfl;have HB3:=hid (bt HB.out hb3);clear hb3 a0 a1 hb;go_wp2;exact bodyPost_ret (v :=.tuple #[.int .i64 r,.int .i64 11]) (by simp[results,Tryz.f37,go_sem]) rfl ⟨by rw[HRS.out];try rfl,bt HB0.out (bt HB1.out HB3.out)⟩
    |some q=>
     rw[hq,show a_ (some q)=(q:Int)from rfl]at HC;have hql:=(lT hq).1;have hqn:q<n:=by rw[HLN.out];exact hql
     have hqz:(q:Int)<(n:Int):=by omega
     have hq0:¬(q:Int)<0:=by omega
     have HPA:=hid (λW (k:Below W2.heap.size W2 W)=>kS (HRT0.out W (bt HB1.out (bt hb k))) c q hqn);have HRS:=hid (show nC l r=if decide (rP l q=[])&&decide ((ae l q).n=0) then (0,0) else (r,11)by unfold nC wV;rw[HN0.out,hq]);clear hq hql;go_wp2_with (go_at_call 85;refine HC.out.mono ?_);rintro e w3 ⟨rfl,hb3⟩;have hb4:=bt HB.out hb3;have HB3:=hid hb4;have HP3:=hid (HPA.out _ hb3);have v0:=((HX1.out.below hb4 HX1.out.lt).cell 0).trans rfl;have v1:=((HX1.out.below hb4 HX1.out.lt).cell 1).trans rfl;obtain⟨bA,off,_,_,e3,yt,_,y1,_⟩:=(HRT0.out _ (bt HB1.out hb4)).node hqn;cases e3;clear hb3 hb4 a0 a1 hb HPA HC HRT0 yt;generalize rP l q=xs at *
     generalize (ae l (q:Int)).n=an at *
     by_cases ha:an=0
     ·subst ha;go_wp2_with (go_at_call 86;refine HP3.out.mono ?_);rintro e w4 ⟨S,cS,rfl,_,hb5⟩;have w1:=((HX1.out.below (bt HB3.out hb5) HX1.out.lt).cell 1).trans rfl;have HB5:=hid (bt HB3.out hb5);clear hb5 v0 v1;cases xs with
      |nil=>
       go_wp2;exact bodyPost_ret (v :=.tuple #[.int .i64 0,.int .i64 0]) (by simp[results,Tryz.f37,go_sem]) rfl ⟨by rw[HRS.out];try rfl,bt HB0.out (bt HB1.out HB5.out)⟩
      |cons x xs=>
       have hl0:(0:Int)<(((x :: xs).length:Nat):Int):=by simp only[List.length_cons];omega
       have HRS2:=hid (show nC l r=(r,11)by rw[HRS.out];rfl);clear HRS;generalize (x :: xs).length=m at *
       go_wp2;exact bodyPost_ret (v :=.tuple #[.int .i64 r,.int .i64 11]) (by simp[results,Tryz.f37,go_sem]) rfl ⟨by rw[HRS2.out];try rfl,bt HB0.out (bt HB1.out HB5.out)⟩
     ·have hab:(an != 0)=true:=by simp[ha]
      have HRS2:=hid (show nC l r=(r,11)by rw[HRS.out,decide_eq_false ha,Bool.and_false];rfl);clear ha HRS;go_wp2;exact bodyPost_ret (v :=.tuple #[.int .i64 r,.int .i64 11]) (by simp[results,Tryz.f37,go_sem]) rfl ⟨by rw[HRS2.out];try rfl,bt HB0.out (bt HB1.out HB3.out)⟩
end
end
section
open Go Go.RowKit Go.Sort
open Tr (Bx ag bt bu Ints aG au fT par gL fK eY qp aA gJ)
theorem sF (A:Option Addr)(c n:Nat)(l:List Tr.Nd)(r:Int)(w:World)(hn:n=l.length)(hE:Tk.nJ w)(hN:bu w A l)(hnum:∀x ∈ l,x.n<=9223372036854775807)(hc:n_ w A l):Calls Tryz.prog 9 #[.agg #[.slice A n c,.int .i64 r]] w (aG (.bool true) w):=by
 have hb0:=ag w (.cells #[.slice A n c,.int .i64 r] 25);have HX:=hid (Bx.new w 25 [.slice A n c,.int .i64 r]);have HB0:=hid hb0;have HS:=hid (xD _ (hE.below hb0));have HSM:=hid (show∀w',Below w.heap.size w w'->Calls Tryz.prog 35 #[.agg #[.slice A n c,.int .i64 r]] w' (z_ l w')from λw' q=>vI A n c l r w' (hN.below q) hn);have HTT:=hid (show LV l->∀w',Below w.heap.size w w'->TT w' A n l from λh w' q=>(TT.mk hN hn (λx hx=>by have:=(h.2 x hx).1;omega) (λx hx=>by have:=(h.2 x hx).2;omega) hnum hc).below q);clear hE hN hnum hc hb0 hn;obtain⟨W0,hW0⟩:∃W0,w.alloc (.cells #[.slice A n c,.int .i64 r] 25)=W0:=⟨_,rfl⟩;rw[hW0]at HX HB0 HS;go_enter Tryz.func9,Tryz.ntmps9
 go_wp2_with (go_at_call 34;refine HS.out.mono ?_);rintro e w1 ⟨rfl,hb1⟩;have HX1:=hid (HX.out.below hb1 HX.out.lt);have HB1:=hid (bt HB0.out hb1);have a0:=(HX1.out.cell 0).trans rfl;have a1:=(HX1.out.cell 1).trans rfl;clear hb1 hW0 HS HX HB0;go_wp2_with (go_at_call 35;refine(HSM.out _ HB1.out).mono ?_);rintro e w2 ⟨hb2,bo,rfl,hok⟩;have HB2:=hid (bt HB1.out hb2);cases bo with
 |false=>
  clear hb2 hok a0 a1;go_wp2
  go_ret
  exact⟨rfl,HB2.out⟩
 |true=>
  have HOK:=hid (hok rfl);have HX2:=hid (HX1.out.below hb2 HX1.out.lt);clear hb2 hok a0 a1 HX1;have a0:=(HX2.out.cell 0).trans rfl;have a1:=(HX2.out.cell 1).trans rfl;have HCK:=hid (mr (HTT.out HOK.out _ HB2.out) c r);have HRK:=hid (λW (q:Below w.heap.size w W)=>zg (HTT.out HOK.out W q) c r);generalize (oG l r).1=cp at *
  generalize (oG l r).2=cz at *
  have h1:(cp==cp)=true:=by simp
  have h2:(cz==cz)=true:=by simp
  go_wp2_with (go_at_call 36;refine HCK.out.mono ?_);rintro e w3 ⟨rfl,hb3⟩;have HB3:=hid (bt HB2.out hb3);have HX3:=hid (HX2.out.below hb3 HX2.out.lt);clear hb3 a0 a1 HCK HX2;have a0:=(HX3.out.cell 0).trans rfl;have a1:=(HX3.out.cell 1).trans rfl;go_wp2_with (go_at_call 37;refine(HRK.out _ HB3.out).mono ?_);rintro e w4 ⟨rfl,hb4⟩;have HB4:=hid (bt HB3.out hb4);clear hb4 a0 a1 HRK HX3;go_wp2
  go_ret
  exact⟨rfl,HB4.out⟩
theorem vO (A:Option Addr)(c:Nat)(l:List Tr.Nd)(r:Int)(w:World)(hE:Tk.nJ w)(hN:bu w A l)(hnum:∀x ∈ l,x.n<=9223372036854775807)(hc:n_ w A l):Calls Tryz.prog 9 #[.agg #[.slice A l.length c,.int .i64 r]] w (aG (.bool true) w):=sF A c l.length l r w rfl hE hN hnum hc
end
end Go.Proofs.YteecfjhjllajlaaGreatDoor
