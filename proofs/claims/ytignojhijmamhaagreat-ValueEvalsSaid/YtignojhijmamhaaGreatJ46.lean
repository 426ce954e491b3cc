/- PROVED here: parts TyDi of the claim. No condition but those in each theorem's own head. -/
import Derived.Test.YtignojhijmamhaaGreatJ45
namespace Go.Proofs.YtignojhijmamhaaGreat.Ty
open Go Go.RowKit Go.Sort
open Tr (Bx heap1 bt Nds Ints VPost BPost rgB par par_yes par_root par_node paL kidsAt IsPost)
theorem wr_kind (k:Int):k=2∨k=3∨k=4∨k=5∨k=22∨k=23∨k=8∨k=17∨k=24∨k=9∨k=16∨k=25∨k=26∨k=27∨k=7∨k=10∨k=15∨k=11∨k=12∨k=13∨k=14∨((k==2)=false∧(k==3)=false∧(k==4)=false∧(k==5)=false∧(k==22)=false∧(k==23)=false∧(k==8)=false∧(k==17)=false∧(k==24)=false∧(k==9)=false∧(k==16)=false∧(k==25)=false∧(k==26)=false∧(k==27)=false∧(k==7)=false∧(k==10)=false∧(k==15)=false∧(k==11)=false∧(k==12)=false∧(k==13)=false∧(k==14)=false):=by
 simp only[beq_eq_false_iff_ne]
 omega
section
variable {w:World} {l:List Tr.Nd} {A:Option Addr} {n:Nat} {r:Int}
set_option maxRecDepth 100000 in
set_option maxHeartbeats 4000000 in
theorem wrong_any (h:RT w A n l r)(c p:Nat)(hp:p<n):Calls Tryz.prog 40 #[.agg #[.slice A n c,.int .i64 r],.int .i64 (p:Int)] w (Tr.IPost (wrA l p) w):=by
 have hb0:=heap1 w (.cells #[.slice A n c,.int .i64 r] 24)
 have HX:=Lib.hid (Bx.new w 24 [.slice A n c,.int .i64 r])
 have HB0:=Lib.hid hb0
 have HT:=Lib.hid (h.below hb0)
 obtain⟨W0,hW0⟩:∃W0,w.alloc (.cells #[.slice A n c,.int .i64 r] 24)=W0:=⟨_,rfl⟩
 rw[hW0]at HX HB0 HT
 clear h hb0
 obtain⟨bA,off,K,cK,rfl,xt,x0,x1,x2,x3,x4,xI⟩:=HT.out.node hp
 have a0:=(HX.out.cell 0).trans rfl
 have a1:=(HX.out.cell 1).trans rfl
 have hpz:(p:Int)<(n:Int):=by omega
 have hb1:=heap1 W0 (.cells #[.int .i64 (ndA l p).kd,.int .i64 (ndA l p).n,.int .i64 (ndA l p).pl,.string (ndA l p).tx,.slice K (ndA l p).ks.length cK] 66)
 have HB1:=Lib.hid hb1
 have hX1:=HX.out.alloc (.cells #[.int .i64 (ndA l p).kd,.int .i64 (ndA l p).n,.int .i64 (ndA l p).pl,.string (ndA l p).tx,.slice K (ndA l p).ks.length cK] 66)
 have hN1:=Bx.new W0 66 [.int .i64 (ndA l p).kd,.int .i64 (ndA l p).n,.int .i64 (ndA l p).pl,.string (ndA l p).tx,.slice K (ndA l p).ks.length cK]
 obtain⟨W1,hW1⟩:∃W1,W0.alloc (.cells #[.int .i64 (ndA l p).kd,.int .i64 (ndA l p).n,.int .i64 (ndA l p).pl,.string (ndA l p).tx,.slice K (ndA l p).ks.length cK] 66)=W1:=⟨_,rfl⟩
 rw[hW1]at HB1 hX1 hN1
 have HX1:=Lib.hid (And.intro hX1 hN1)
 have HT1:=Lib.hid (HT.out.below HB1.out)
 have HI:=Lib.hid (xI.below HB1.out)
 have HPL:=Lib.hid (And.intro (show p<l.length by rw[← HT.out.tt.len];exact hp) HT.out.tt.len)
 obtain⟨b,hRT⟩:=HT.out.rtn
 have HRT:=Lib.hid hRT
 have HAFF:=Lib.hid (hRT.ndf HPL.out.1)
 have HKID:=Lib.hid (hRT.nat HPL.out.1)
 have HROOT:=Lib.hid (And.intro HT.out.root (show l.length-1<n by have:=hRT.len;rw[HPL.out.2];omega))
 clear hb1 hX1 hN1 xI hRT HT HX
 have e0:=(HX1.out.1.cell 0).trans rfl
 have e1:=(HX1.out.1.cell 1).trans rfl
 have ek:=(HX1.out.2.cell 0).trans rfl
 have en:=(HX1.out.2.cell 1).trans rfl
 have ep:=(HX1.out.2.cell 2).trans rfl
 have et:=(HX1.out.2.cell 3).trans rfl
 have es:=(HX1.out.2.cell 4).trans rfl
 rcases wr_kind (ndA l p).kd with hk |hk |hk |hk |hk |hk |hk |hk |hk |hk |hk |hk |hk |hk |hk |hk |hk |hk |hk |hk |hk |hk
 ·have HVAL:wrA l p=if twiA l p then 4 else 0:=by
   unfold wrA
   rw[hk,if_pos (by decide)]
  have HC:=Lib.hid (twice_any HT1.out c p hp)
  rw[HVAL]
  rw[hk]at hW1 ek HX1 x0
  clear HVAL hk
  clear HT1 HAFF HPL HRT HI HKID HROOT
  generalize twiA l p=tb at *
  generalize (ndA l (p:Int)).n=nn at *
  generalize (ndA l (p:Int)).pl=pl at *
  generalize (ndA l (p:Int)).tx=tx at *
  generalize (ndA l (p:Int)).ks.length=m at *
  cases tb with
  |true=>
   rw[if_pos rfl]
   go_enter Tryz.func40,Tryz.ntmps40
   go_wp2_with (go_at_call 73;refine HC.out.mono ?_)
   rintro e w2 ⟨rfl,hb2⟩
   have HE:=Lib.hid (bt HB0.out (bt HB1.out hb2))
   clear hb2
   go_wp2
   go_ret
   exact⟨rfl,HE.out⟩
  |false=>
   rw[if_neg (by decide)]
   go_enter Tryz.func40,Tryz.ntmps40
   go_wp2_with (go_at_call 73;refine HC.out.mono ?_)
   rintro e w2 ⟨rfl,hb2⟩
   have HE:=Lib.hid (bt HB0.out (bt HB1.out hb2))
   clear hb2
   go_wp2
   go_ret
   exact⟨rfl,HE.out⟩
 ·have HVAL:wrA l p=if twiA l p then 4 else 0:=by
   unfold wrA
   rw[hk,if_pos (by decide)]
  have HC:=Lib.hid (twice_any HT1.out c p hp)
  rw[HVAL]
  rw[hk]at hW1 ek HX1 x0
  clear HVAL hk
  clear HT1 HAFF HPL HRT HI HKID HROOT
  generalize twiA l p=tb at *
  generalize (ndA l (p:Int)).n=nn at *
  generalize (ndA l (p:Int)).pl=pl at *
  generalize (ndA l (p:Int)).tx=tx at *
  generalize (ndA l (p:Int)).ks.length=m at *
  cases tb with
  |true=>
   rw[if_pos rfl]
   go_enter Tryz.func40,Tryz.ntmps40
   go_wp2_with (go_at_call 73;refine HC.out.mono ?_)
   rintro e w2 ⟨rfl,hb2⟩
   have HE:=Lib.hid (bt HB0.out (bt HB1.out hb2))
   clear hb2
   go_wp2
   go_ret
   exact⟨rfl,HE.out⟩
  |false=>
   rw[if_neg (by decide)]
   go_enter Tryz.func40,Tryz.ntmps40
   go_wp2_with (go_at_call 73;refine HC.out.mono ?_)
   rintro e w2 ⟨rfl,hb2⟩
   have HE:=Lib.hid (bt HB0.out (bt HB1.out hb2))
   clear hb2
   go_wp2
   go_ret
   exact⟨rfl,HE.out⟩
 ·have HVAL:wrA l p=if twiA l p then 4 else 0:=by
   unfold wrA
   rw[hk,if_pos (by decide)]
  have HC:=Lib.hid (twice_any HT1.out c p hp)
  rw[HVAL]
  rw[hk]at hW1 ek HX1 x0
  clear HVAL hk
  clear HT1 HAFF HPL HRT HI HKID HROOT
  generalize twiA l p=tb at *
  generalize (ndA l (p:Int)).n=nn at *
  generalize (ndA l (p:Int)).pl=pl at *
  generalize (ndA l (p:Int)).tx=tx at *
  generalize (ndA l (p:Int)).ks.length=m at *
  cases tb with
  |true=>
   rw[if_pos rfl]
   go_enter Tryz.func40,Tryz.ntmps40
   go_wp2_with (go_at_call 73;refine HC.out.mono ?_)
   rintro e w2 ⟨rfl,hb2⟩
   have HE:=Lib.hid (bt HB0.out (bt HB1.out hb2))
   clear hb2
   go_wp2
   go_ret
   exact⟨rfl,HE.out⟩
  |false=>
   rw[if_neg (by decide)]
   go_enter Tryz.func40,Tryz.ntmps40
   go_wp2_with (go_at_call 73;refine HC.out.mono ?_)
   rintro e w2 ⟨rfl,hb2⟩
   have HE:=Lib.hid (bt HB0.out (bt HB1.out hb2))
   clear hb2
   go_wp2
   go_ret
   exact⟨rfl,HE.out⟩
 ·have HVAL:wrA l p=if twiA l p then 4 else 0:=by
   unfold wrA
   rw[hk,if_pos (by decide)]
  have HC:=Lib.hid (twice_any HT1.out c p hp)
  rw[HVAL]
  rw[hk]at hW1 ek HX1 x0
  clear HVAL hk
  clear HT1 HAFF HPL HRT HI HKID HROOT
  generalize twiA l p=tb at *
  generalize (ndA l (p:Int)).n=nn at *
  generalize (ndA l (p:Int)).pl=pl at *
  generalize (ndA l (p:Int)).tx=tx at *
  generalize (ndA l (p:Int)).ks.length=m at *
  cases tb with
  |true=>
   rw[if_pos rfl]
   go_enter Tryz.func40,Tryz.ntmps40
   go_wp2_with (go_at_call 73;refine HC.out.mono ?_)
   rintro e w2 ⟨rfl,hb2⟩
   have HE:=Lib.hid (bt HB0.out (bt HB1.out hb2))
   clear hb2
   go_wp2
   go_ret
   exact⟨rfl,HE.out⟩
  |false=>
   rw[if_neg (by decide)]
   go_enter Tryz.func40,Tryz.ntmps40
   go_wp2_with (go_at_call 73;refine HC.out.mono ?_)
   rintro e w2 ⟨rfl,hb2⟩
   have HE:=Lib.hid (bt HB0.out (bt HB1.out hb2))
   clear hb2
   go_wp2
   go_ret
   exact⟨rfl,HE.out⟩
 ·have HVAL:wrA l p=nmA l p 0 0:=by
   unfold wrA
   rw[hk,if_neg (by decide),if_pos (by decide)]
  have HC:=Lib.hid (named_any HT1.out c p 0 0 hp)
  rw[HVAL]
  rw[hk]at hW1 ek HX1 x0
  clear HVAL hk
  clear HT1 HAFF HPL HRT HI HKID HROOT
  generalize nmA l p 0 0=nz at *
  generalize (ndA l (p:Int)).n=nn at *
  generalize (ndA l (p:Int)).pl=pl at *
  generalize (ndA l (p:Int)).tx=tx at *
  generalize (ndA l (p:Int)).ks.length=m at *
  go_enter Tryz.func40,Tryz.ntmps40
  go_wp2_with (go_at_call 74;refine HC.out.mono ?_)
  rintro e w2 ⟨rfl,hb2⟩
  have HE:=Lib.hid (bt HB0.out (bt HB1.out hb2))
  clear hb2
  go_wp2
  go_ret
  exact⟨rfl,HE.out⟩
 ·have HVAL:wrA l p=nmA l p 3 1:=by
   unfold wrA
   rw[hk,if_neg (by decide),if_neg (by decide),if_pos (by decide)]
  have HC:=Lib.hid (named_any HT1.out c p 3 1 hp)
  rw[HVAL]
  rw[hk]at hW1 ek HX1 x0
  clear HVAL hk
  clear HT1 HAFF HPL HRT HI HKID HROOT
  generalize nmA l p 3 1=nz at *
  generalize (ndA l (p:Int)).n=nn at *
  generalize (ndA l (p:Int)).pl=pl at *
  generalize (ndA l (p:Int)).tx=tx at *
  generalize (ndA l (p:Int)).ks.length=m at *
  go_enter Tryz.func40,Tryz.ntmps40
  go_wp2_with (go_at_call 74;refine HC.out.mono ?_)
  rintro e w2 ⟨rfl,hb2⟩
  have HE:=Lib.hid (bt HB0.out (bt HB1.out hb2))
  clear hb2
  go_wp2
  go_ret
  exact⟨rfl,HE.out⟩
 ·have HVAL:wrA l p=nmA l p 3 1:=by
   unfold wrA
   rw[hk,if_neg (by decide),if_neg (by decide),if_pos (by decide)]
  have HC:=Lib.hid (named_any HT1.out c p 3 1 hp)
  rw[HVAL]
  rw[hk]at hW1 ek HX1 x0
  clear HVAL hk
  clear HT1 HAFF HPL HRT HI HKID HROOT
  generalize nmA l p 3 1=nz at *
  generalize (ndA l (p:Int)).n=nn at *
  generalize (ndA l (p:Int)).pl=pl at *
  generalize (ndA l (p:Int)).tx=tx at *
  generalize (ndA l (p:Int)).ks.length=m at *
  go_enter Tryz.func40,Tryz.ntmps40
  go_wp2_with (go_at_call 74;refine HC.out.mono ?_)
  rintro e w2 ⟨rfl,hb2⟩
  have HE:=Lib.hid (bt HB0.out (bt HB1.out hb2))
  clear hb2
  go_wp2
  go_ret
  exact⟨rfl,HE.out⟩
 ·have HVAL:wrA l p=nmA l p 3 1:=by
   unfold wrA
   rw[hk,if_neg (by decide),if_neg (by decide),if_pos (by decide)]
  have HC:=Lib.hid (named_any HT1.out c p 3 1 hp)
  rw[HVAL]
  rw[hk]at hW1 ek HX1 x0
  clear HVAL hk
  clear HT1 HAFF HPL HRT HI HKID HROOT
  generalize nmA l p 3 1=nz at *
  generalize (ndA l (p:Int)).n=nn at *
  generalize (ndA l (p:Int)).pl=pl at *
  generalize (ndA l (p:Int)).tx=tx at *
  generalize (ndA l (p:Int)).ks.length=m at *
  go_enter Tryz.func40,Tryz.ntmps40
  go_wp2_with (go_at_call 74;refine HC.out.mono ?_)
  rintro e w2 ⟨rfl,hb2⟩
  have HE:=Lib.hid (bt HB0.out (bt HB1.out hb2))
  clear hb2
  go_wp2
  go_ret
  exact⟨rfl,HE.out⟩
 ·have HVAL:wrA l p=nmA l p 3 0:=by
   unfold wrA
   rw[hk,if_neg (by decide),if_neg (by decide),if_neg (by decide),if_pos (by decide)]
  have HC:=Lib.hid (named_any HT1.out c p 3 0 hp)
  rw[HVAL]
  rw[hk]at hW1 ek HX1 x0
  clear HVAL hk
  clear HT1 HAFF HPL HRT HI HKID HROOT
  generalize nmA l p 3 0=nz at *
  generalize (ndA l (p:Int)).n=nn at *
  generalize (ndA l (p:Int)).pl=pl at *
  generalize (ndA l (p:Int)).tx=tx at *
  generalize (ndA l (p:Int)).ks.length=m at *
  go_enter Tryz.func40,Tryz.ntmps40
  go_wp2_with (go_at_call 74;refine HC.out.mono ?_)
  rintro e w2 ⟨rfl,hb2⟩
  have HE:=Lib.hid (bt HB0.out (bt HB1.out hb2))
  clear hb2
  go_wp2
  go_ret
  exact⟨rfl,HE.out⟩
 ·have HVAL:wrA l p=nmA l p 1 0:=by
   unfold wrA
   rw[hk,if_neg (by decide),if_neg (by decide),if_neg (by decide),if_neg (by decide),if_pos (by decide)]
  have HC:=Lib.hid (named_any HT1.out c p 1 0 hp)
  rw[HVAL]
  rw[hk]at hW1 ek HX1 x0
  clear HVAL hk
  clear HT1 HAFF HPL HRT HI HKID HROOT
  generalize nmA l p 1 0=nz at *
  generalize (ndA l (p:Int)).n=nn at *
  generalize (ndA l (p:Int)).pl=pl at *
  generalize (ndA l (p:Int)).tx=tx at *
  generalize (ndA l (p:Int)).ks.length=m at *
  go_enter Tryz.func40,Tryz.ntmps40
  go_wp2_with (go_at_call 74;refine HC.out.mono ?_)
  rintro e w2 ⟨rfl,hb2⟩
  have HE:=Lib.hid (bt HB0.out (bt HB1.out hb2))
  clear hb2
  go_wp2
  go_ret
  exact⟨rfl,HE.out⟩
 ·have HVAL:wrA l p=nmA l p 1 0:=by
   unfold wrA
   rw[hk,if_neg (by decide),if_neg (by decide),if_neg (by decide),if_neg (by decide),if_pos (by decide)]
  have HC:=Lib.hid (named_any HT1.out c p 1 0 hp)
  rw[HVAL]
  rw[hk]at hW1 ek HX1 x0
  clear HVAL hk
  clear HT1 HAFF HPL HRT HI HKID HROOT
  generalize nmA l p 1 0=nz at *
  generalize (ndA l (p:Int)).n=nn at *
  generalize (ndA l (p:Int)).pl=pl at *
  generalize (ndA l (p:Int)).tx=tx at *
  generalize (ndA l (p:Int)).ks.length=m at *
  go_enter Tryz.func40,Tryz.ntmps40
  go_wp2_with (go_at_call 74;refine HC.out.mono ?_)
  rintro e w2 ⟨rfl,hb2⟩
  have HE:=Lib.hid (bt HB0.out (bt HB1.out hb2))
  clear hb2
  go_wp2
  go_ret
  exact⟨rfl,HE.out⟩
 ·have hof:=of_any HT1.out c (l.length-1) HROOT.out.2 3 3 (ndA l p).tx
  rw[HRT.out.of33,← HROOT.out.1]at hof
  have HC:=Lib.hid hof
  clear hof
  cases hq:prF l (ndA l p).tx 0 with
  |none=>
   have HVAL:wrA l p=3:=by
    unfold wrA
    rw[hk,if_neg (by decide),if_neg (by decide),if_neg (by decide),if_neg (by decide),if_neg (by decide),if_pos (by decide),hq];rfl
   rw[hq,show optZ none = -1 from rfl]at HC
   rw[HVAL]
   rw[hk]at hW1 ek HX1 x0
   clear HVAL hk
   clear hq
   clear HT1 HAFF HPL HRT HI HKID HROOT
   generalize (ndA l (p:Int)).n=nn at *
   generalize (ndA l (p:Int)).pl=pl at *
   generalize (ndA l (p:Int)).tx=tx at *
   generalize (ndA l (p:Int)).ks.length=m at *
   go_enter Tryz.func40,Tryz.ntmps40
   go_wp2_with (go_at_call 41;refine HC.out.mono ?_)
   rintro e w2 ⟨rfl,hb2⟩
   have HE:=Lib.hid (bt HB0.out (bt HB1.out hb2))
   clear hb2
   go_wp2
   go_ret
   exact⟨rfl,HE.out⟩
  |some q=>
   have HVAL:wrA l p=toldZ (plnB l q):=by
    unfold wrA
    rw[hk,if_neg (by decide),if_neg (by decide),if_neg (by decide),if_neg (by decide),if_neg (by decide),if_pos (by decide),hq];rfl
   rw[hq,show optZ (some q)=(q:Int)from rfl]at HC
   have hqn:q<n:=by rw[HPL.out.2];exact(prF_lt hq).1
   have HPQ:=Lib.hid (fun W (k:Below W1.heap.size W1 W)=>rplain_any (HT1.out.below k) c q hqn)
   have hq0:¬(q:Int)<0:=by omega
   rw[HVAL]
   rw[hk]at hW1 ek HX1 x0
   clear HVAL hk
   clear hq hqn
   clear HT1 HAFF HPL HRT HI HKID HROOT
   generalize plnB l q=pb at *
   generalize (ndA l (p:Int)).n=nn at *
   generalize (ndA l (p:Int)).pl=pl at *
   generalize (ndA l (p:Int)).tx=tx at *
   generalize (ndA l (p:Int)).ks.length=m at *
   go_enter Tryz.func40,Tryz.ntmps40
   go_wp2_with (go_at_call 41;refine HC.out.mono ?_)
   rintro e w2 ⟨rfl,hb2⟩
   have HB2:=Lib.hid hb2
   have v0:=((HX1.out.1.below hb2 HX1.out.1.lt).cell 0).trans rfl
   have v1:=((HX1.out.1.below hb2 HX1.out.1.lt).cell 1).trans rfl
   clear hb2 e0 e1 et es ek
   go_wp2_with (go_at_call 76;refine(HPQ.out _ HB2.out).mono ?_)
   rintro e w3 ⟨rfl,hb3⟩
   have HB3:=Lib.hid (bt HB2.out hb3)
   clear hb3
   have HTO:=Lib.hid (fun(b:Bool)=>told_any b w3)
   cases pb with
   |true=>
    go_wp2_with (go_at_call 75;refine(HTO.out true).mono ?_)
    rintro e w9 ⟨rfl,hb9⟩
    have HE:=Lib.hid (bt HB0.out (bt HB1.out (bt HB3.out hb9)))
    clear hb9
    go_wp2
    go_ret
    exact⟨rfl,HE.out⟩
   |false=>
    go_wp2_with (go_at_call 75;refine(HTO.out false).mono ?_)
    rintro e w9 ⟨rfl,hb9⟩
    have HE:=Lib.hid (bt HB0.out (bt HB1.out (bt HB3.out hb9)))
    clear hb9
    go_wp2
    go_ret
    exact⟨rfl,HE.out⟩
 ·have HVAL:wrA l p=toldZ (fitB l p):=by
   unfold wrA
   rw[hk,if_neg (by decide),if_neg (by decide),if_neg (by decide),if_neg (by decide),if_neg (by decide),if_neg (by decide),if_pos (by decide)]
  have hop:=operator_any HT1.out c p hp (by rw[hk];decide) K cK HI.out
  rw[hk]at hop
  have HC:=Lib.hid hop
  clear hop
  rw[HVAL]
  rw[hk]at hW1 ek HX1 x0
  clear HVAL hk
  clear HT1 HAFF HPL HRT HI HKID HROOT
  generalize fitB l p=fb at *
  generalize (ndA l (p:Int)).n=nn at *
  generalize (ndA l (p:Int)).pl=pl at *
  generalize (ndA l (p:Int)).tx=tx at *
  generalize (ndA l (p:Int)).ks.length=m at *
  go_enter Tryz.func40,Tryz.ntmps40
  go_wp2_with (go_at_call 77;refine HC.out.mono ?_)
  rintro e w3 ⟨rfl,hb3⟩
  have HB3:=Lib.hid hb3
  clear hb3
  have HTO:=Lib.hid (fun(b:Bool)=>told_any b w3)
  cases fb with
  |true=>
   go_wp2_with (go_at_call 75;refine(HTO.out true).mono ?_)
   rintro e w9 ⟨rfl,hb9⟩
   have HE:=Lib.hid (bt HB0.out (bt HB1.out (bt HB3.out hb9)))
   clear hb9
   go_wp2
   go_ret
   exact⟨rfl,HE.out⟩
  |false=>
   go_wp2_with (go_at_call 75;refine(HTO.out false).mono ?_)
   rintro e w9 ⟨rfl,hb9⟩
   have HE:=Lib.hid (bt HB0.out (bt HB1.out (bt HB3.out hb9)))
   clear hb9
   go_wp2
   go_ret
   exact⟨rfl,HE.out⟩
 ·have HVAL:wrA l p=toldZ (fitB l p):=by
   unfold wrA
   rw[hk,if_neg (by decide),if_neg (by decide),if_neg (by decide),if_neg (by decide),if_neg (by decide),if_neg (by decide),if_pos (by decide)]
  have hop:=operator_any HT1.out c p hp (by rw[hk];decide) K cK HI.out
  rw[hk]at hop
  have HC:=Lib.hid hop
  clear hop
  rw[HVAL]
  rw[hk]at hW1 ek HX1 x0
  clear HVAL hk
  clear HT1 HAFF HPL HRT HI HKID HROOT
  generalize fitB l p=fb at *
  generalize (ndA l (p:Int)).n=nn at *
  generalize (ndA l (p:Int)).pl=pl at *
  generalize (ndA l (p:Int)).tx=tx at *
  generalize (ndA l (p:Int)).ks.length=m at *
  go_enter Tryz.func40,Tryz.ntmps40
  go_wp2_with (go_at_call 77;refine HC.out.mono ?_)
  rintro e w3 ⟨rfl,hb3⟩
  have HB3:=Lib.hid hb3
  clear hb3
  have HTO:=Lib.hid (fun(b:Bool)=>told_any b w3)
  cases fb with
  |true=>
   go_wp2_with (go_at_call 75;refine(HTO.out true).mono ?_)
   rintro e w9 ⟨rfl,hb9⟩
   have HE:=Lib.hid (bt HB0.out (bt HB1.out (bt HB3.out hb9)))
   clear hb9
   go_wp2
   go_ret
   exact⟨rfl,HE.out⟩
  |false=>
   go_wp2_with (go_at_call 75;refine(HTO.out false).mono ?_)
   rintro e w9 ⟨rfl,hb9⟩
   have HE:=Lib.hid (bt HB0.out (bt HB1.out (bt HB3.out hb9)))
   clear hb9
   go_wp2
   go_ret
   exact⟨rfl,HE.out⟩
 ·obtain⟨k0,ks0,hks⟩:=HAFF.out.one (Or.inl hk)
  obtain⟨k,rfl,hki⟩:=HKID.out k0 (by rw[hks];simp)
  have hka:(kidA l p 0).toNat=k:=by unfold kidA;rw[hks];rfl
  have hkn:k<n:=by omega
  have HTY:=Lib.hid (fun W (q:Below W1.heap.size W1 W)=>typed_any (HT1.out.below q) c k hkn)
  have hI:=HI.out
  obtain⟨bK,oK,rfl,hbK,hcK⟩:=hI (by rw[hks];simp)
  have ck0:=hcK 0 (by rw[hks];simp)
  have hml:0<(ndA l p).ks.length:=by rw[hks];simp
  have ck:W1.cell? ⟨bK,oK,none⟩=some (.int .i64 (k:Int)):=by rw[show W1.cell? ⟨bK,oK,none⟩=_ from ck0];simp only[hks];rfl
  clear ck0
  have hmz:(0:Int)<(((ndA l p).ks.length:Nat):Int):=by omega
  have HVAL:wrA l p=nmA l p (typA l (kidA l p 0).toNat) 0:=by
   unfold wrA
   rw[hk,if_neg (by decide),if_neg (by decide),if_neg (by decide),if_neg (by decide),if_neg (by decide),if_neg (by decide),if_neg (by decide),if_pos (by decide)]
  rw[hka]at HVAL
  have HNM:=Lib.hid (fun W (q:Below W1.heap.size W1 W)=>named_any (HT1.out.below q) c p (typA l k) 0 hp)
  rw[HVAL]
  rw[hk]at hW1 ek HX1 x0
  clear HVAL hk
  clear hka hI hcK hki hkn hks hml
  clear HT1 HAFF HPL HRT HI HKID HROOT
  generalize nmA l p (typA l k) 0=nz at *
  generalize typA l k=tq at *
  generalize (ndA l (p:Int)).n=nn at *
  generalize (ndA l (p:Int)).pl=pl at *
  generalize (ndA l (p:Int)).tx=tx at *
  generalize (ndA l (p:Int)).ks.length=m at *
  have s0:=cell_regrown e0
  have s1:=cell_regrown e1
  have s2:=cell_regrown es
  have s3:=cell_regrown ck
  have cq:∀d os,Calls Tryz.prog 78 #[.agg #[.slice (some ⟨bA,off,none⟩) n c,.int .i64 r],.int .i64 (k:Int)] (grow (redrawn W1 d) os) fun e w''=>e = .returned (.int .i64 tq)∧∃p:Regrown,w''=grow (redrawn W1 p.d) p.os:=fun d os=>Calls.regrown_of (HTY.out _ (below_regrown W1 d os))
  have cn:∀d os,Calls Tryz.prog 74 #[.agg #[.slice (some ⟨bA,off,none⟩) n c,.int .i64 r],.int .i64 (p:Int),.int .i64 tq,.int .i64 0] (grow (redrawn W1 d) os) fun e w''=>e = .returned (.int .i64 nz)∧∃p:Regrown,w''=grow (redrawn W1 p.d) p.os:=fun d os=>Calls.regrown_of (HNM.out _ (below_regrown W1 d os))
  go_enter Tryz.func40,Tryz.ntmps40
  go_upto_region 29 with(fail)
  refine wp_region_quiet_below (by kernel_rfl) (by kernel_rfl) ?_
  repeat (go_big_quiet_step (first|exact cq _ _ |exact cn _ _))
  refine wpQuiet_nil ?_
  intro _ hw'
  obtain⟨⟨dq,osq⟩,hw''⟩:=hw'
  subst hw''
  have hbq:=below_regrown W1 dq osq
  generalize grow (redrawn W1 dq) osq=W4 at *
  have HE:=Lib.hid (bt HB0.out (bt HB1.out hbq))
  clear hbq cq cn
  go_wp2
  go_ret
  exact⟨rfl,HE.out⟩
 ·obtain⟨k1,k0,ks0,hks⟩:=HAFF.out.two (hk)
  obtain⟨k,rfl,hki⟩:=HKID.out k0 (by rw[hks];simp)
  have hka:(kidA l p 1).toNat=k:=by unfold kidA;rw[hks];rfl
  have hkn:k<n:=by omega
  have HTY:=Lib.hid (fun W (q:Below W1.heap.size W1 W)=>typed_any (HT1.out.below q) c k hkn)
  have hI:=HI.out
  obtain⟨bK,oK,rfl,hbK,hcK⟩:=hI (by rw[hks];simp)
  have ck0:=hcK 1 (by rw[hks];simp)
  have hml:1<(ndA l p).ks.length:=by rw[hks];simp
  have ck:W1.cell? ⟨bK,oK+1,none⟩=some (.int .i64 (k:Int)):=by rw[show W1.cell? ⟨bK,oK+1,none⟩=_ from ck0];simp only[hks];rfl
  clear ck0
  have hmz:(1:Int)<(((ndA l p).ks.length:Nat):Int):=by omega
  have HVAL:wrA l p=toldZ (decide (typA l (kidA l p 1).toNat=1)):=by
   unfold wrA
   rw[hk,if_neg (by decide),if_neg (by decide),if_neg (by decide),if_neg (by decide),if_neg (by decide),if_neg (by decide),if_neg (by decide),if_neg (by decide),if_pos (by decide)]
  rw[hka]at HVAL
  rw[HVAL]
  rw[hk]at hW1 ek HX1 x0
  clear HVAL hk
  clear hka hI hcK hki hkn hks hml
  clear HT1 HAFF HPL HRT HI HKID HROOT
  generalize typA l k=tq at *
  generalize (ndA l (p:Int)).n=nn at *
  generalize (ndA l (p:Int)).pl=pl at *
  generalize (ndA l (p:Int)).tx=tx at *
  generalize (ndA l (p:Int)).ks.length=m at *
  have s0:=cell_regrown e0
  have s1:=cell_regrown e1
  have s2:=cell_regrown es
  have s3:=cell_regrown ck
  have cq:∀d os,Calls Tryz.prog 78 #[.agg #[.slice (some ⟨bA,off,none⟩) n c,.int .i64 r],.int .i64 (k:Int)] (grow (redrawn W1 d) os) fun e w''=>e = .returned (.int .i64 tq)∧∃p:Regrown,w''=grow (redrawn W1 p.d) p.os:=fun d os=>Calls.regrown_of (HTY.out _ (below_regrown W1 d os))
  by_cases ht:tq=1
  ·have h1:(tq==1)=true:=by simp[ht]
   rw[decide_eq_true ht,show toldZ true=0 from rfl]
   clear ht
   have ct:∀d os,Calls Tryz.prog 75 #[.bool true] (grow (redrawn W1 d) os) fun e w''=>e = .returned (.int .i64 0)∧∃p:Regrown,w''=grow (redrawn W1 p.d) p.os:=fun d os=>Calls.regrown_of (told_any true _)
   go_enter Tryz.func40,Tryz.ntmps40
   go_upto_region 31 with(fail)
   refine wp_region_quiet_below (by kernel_rfl) (by kernel_rfl) ?_
   repeat (go_big_quiet_step (first|exact cq _ _ |exact ct _ _))
   refine wpQuiet_nil ?_
   intro _ hw'
   obtain⟨⟨dq,osq⟩,hw''⟩:=hw'
   subst hw''
   have hbq:=below_regrown W1 dq osq
   generalize grow (redrawn W1 dq) osq=W4 at *
   have HE:=Lib.hid (bt HB0.out (bt HB1.out hbq))
   clear hbq cq ct
   go_wp2
   go_ret
   exact⟨rfl,HE.out⟩
  ·have h1:(tq==1)=false:=beq_eq_false_iff_ne.2 ht
   rw[decide_eq_false ht,show toldZ false=5 from rfl]
   clear ht
   have ct:∀d os,Calls Tryz.prog 75 #[.bool false] (grow (redrawn W1 d) os) fun e w''=>e = .returned (.int .i64 5)∧∃p:Regrown,w''=grow (redrawn W1 p.d) p.os:=fun d os=>Calls.regrown_of (told_any false _)
   go_enter Tryz.func40,Tryz.ntmps40
   go_upto_region 31 with(fail)
   refine wp_region_quiet_below (by kernel_rfl) (by kernel_rfl) ?_
   repeat (go_big_quiet_step (first|exact cq _ _ |exact ct _ _))
   refine wpQuiet_nil ?_
   intro _ hw'
   obtain⟨⟨dq,osq⟩,hw''⟩:=hw'
   subst hw''
   have hbq:=below_regrown W1 dq osq
   generalize grow (redrawn W1 dq) osq=W4 at *
   have HE:=Lib.hid (bt HB0.out (bt HB1.out hbq))
   clear hbq cq ct
   go_wp2
   go_ret
   exact⟨rfl,HE.out⟩
 ·obtain⟨k0,ks0,hks⟩:=HAFF.out.one (by omega)
  obtain⟨k,rfl,hki⟩:=HKID.out k0 (by rw[hks];simp)
  have hka:(kidA l p 0).toNat=k:=by unfold kidA;rw[hks];rfl
  have hkn:k<n:=by omega
  have HTY:=Lib.hid (fun W (q:Below W1.heap.size W1 W)=>typed_any (HT1.out.below q) c k hkn)
  have hI:=HI.out
  obtain⟨bK,oK,rfl,hbK,hcK⟩:=hI (by rw[hks];simp)
  have ck0:=hcK 0 (by rw[hks];simp)
  have hml:0<(ndA l p).ks.length:=by rw[hks];simp
  have ck:W1.cell? ⟨bK,oK,none⟩=some (.int .i64 (k:Int)):=by rw[show W1.cell? ⟨bK,oK,none⟩=_ from ck0];simp only[hks];rfl
  clear ck0
  have hmz:(0:Int)<(((ndA l p).ks.length:Nat):Int):=by omega
  have HVAL:wrA l p=toldZ (decide (typA l (kidA l p 0).toNat=1)):=by
   unfold wrA
   rw[hk,if_neg (by decide),if_neg (by decide),if_neg (by decide),if_neg (by decide),if_neg (by decide),if_neg (by decide),if_neg (by decide),if_neg (by decide),if_neg (by decide),if_pos (by decide)]
  rw[hka]at HVAL
  rw[HVAL]
  rw[hk]at hW1 ek HX1 x0
  clear HVAL hk
  clear hka hI hcK hki hkn hks hml
  clear HT1 HAFF HPL HRT HI HKID HROOT
  generalize typA l k=tq at *
  generalize (ndA l (p:Int)).n=nn at *
  generalize (ndA l (p:Int)).pl=pl at *
  generalize (ndA l (p:Int)).tx=tx at *
  generalize (ndA l (p:Int)).ks.length=m at *
  have s0:=cell_regrown e0
  have s1:=cell_regrown e1
  have s2:=cell_regrown es
  have s3:=cell_regrown ck
  have cq:∀d os,Calls Tryz.prog 78 #[.agg #[.slice (some ⟨bA,off,none⟩) n c,.int .i64 r],.int .i64 (k:Int)] (grow (redrawn W1 d) os) fun e w''=>e = .returned (.int .i64 tq)∧∃p:Regrown,w''=grow (redrawn W1 p.d) p.os:=fun d os=>Calls.regrown_of (HTY.out _ (below_regrown W1 d os))
  by_cases ht:tq=1
  ·have h1:(tq==1)=true:=by simp[ht]
   rw[decide_eq_true ht,show toldZ true=0 from rfl]
   clear ht
   have ct:∀d os,Calls Tryz.prog 75 #[.bool true] (grow (redrawn W1 d) os) fun e w''=>e = .returned (.int .i64 0)∧∃p:Regrown,w''=grow (redrawn W1 p.d) p.os:=fun d os=>Calls.regrown_of (told_any true _)
   go_enter Tryz.func40,Tryz.ntmps40
   go_upto_region 33 with(fail)
   refine wp_region_quiet_below (by kernel_rfl) (by kernel_rfl) ?_
   repeat (go_big_quiet_step (first|exact cq _ _ |exact ct _ _))
   refine wpQuiet_nil ?_
   intro _ hw'
   obtain⟨⟨dq,osq⟩,hw''⟩:=hw'
   subst hw''
   have hbq:=below_regrown W1 dq osq
   generalize grow (redrawn W1 dq) osq=W4 at *
   have HE:=Lib.hid (bt HB0.out (bt HB1.out hbq))
   clear hbq cq ct
   go_wp2
   go_ret
   exact⟨rfl,HE.out⟩
  ·have h1:(tq==1)=false:=beq_eq_false_iff_ne.2 ht
   rw[decide_eq_false ht,show toldZ false=5 from rfl]
   clear ht
   have ct:∀d os,Calls Tryz.prog 75 #[.bool false] (grow (redrawn W1 d) os) fun e w''=>e = .returned (.int .i64 5)∧∃p:Regrown,w''=grow (redrawn W1 p.d) p.os:=fun d os=>Calls.regrown_of (told_any false _)
   go_enter Tryz.func40,Tryz.ntmps40
   go_upto_region 33 with(fail)
   refine wp_region_quiet_below (by kernel_rfl) (by kernel_rfl) ?_
   repeat (go_big_quiet_step (first|exact cq _ _ |exact ct _ _))
   refine wpQuiet_nil ?_
   intro _ hw'
   obtain⟨⟨dq,osq⟩,hw''⟩:=hw'
   subst hw''
   have hbq:=below_regrown W1 dq osq
   generalize grow (redrawn W1 dq) osq=W4 at *
   have HE:=Lib.hid (bt HB0.out (bt HB1.out hbq))
   clear hbq cq ct
   go_wp2
   go_ret
   exact⟨rfl,HE.out⟩
 ·obtain⟨k0,ks0,hks⟩:=HAFF.out.one (by omega)
  obtain⟨k,rfl,hki⟩:=HKID.out k0 (by rw[hks];simp)
  have hka:(kidA l p 0).toNat=k:=by unfold kidA;rw[hks];rfl
  have hkn:k<n:=by omega
  have HTY:=Lib.hid (fun W (q:Below W1.heap.size W1 W)=>typed_any (HT1.out.below q) c k hkn)
  have hI:=HI.out
  obtain⟨bK,oK,rfl,hbK,hcK⟩:=hI (by rw[hks];simp)
  have ck0:=hcK 0 (by rw[hks];simp)
  have hml:0<(ndA l p).ks.length:=by rw[hks];simp
  have ck:W1.cell? ⟨bK,oK,none⟩=some (.int .i64 (k:Int)):=by rw[show W1.cell? ⟨bK,oK,none⟩=_ from ck0];simp only[hks];rfl
  clear ck0
  have hmz:(0:Int)<(((ndA l p).ks.length:Nat):Int):=by omega
  have HVAL:wrA l p=toldZ (decide (typA l (kidA l p 0).toNat=2)):=by
   unfold wrA
   rw[hk,if_neg (by decide),if_neg (by decide),if_neg (by decide),if_neg (by decide),if_neg (by decide),if_neg (by decide),if_neg (by decide),if_neg (by decide),if_neg (by decide),if_neg (by decide),if_pos (by decide)]
  rw[hka]at HVAL
  rw[HVAL]
  rw[hk]at hW1 ek HX1 x0
  clear HVAL hk
  clear hka hI hcK hki hkn hks hml
  clear HT1 HAFF HPL HRT HI HKID HROOT
  generalize typA l k=tq at *
  generalize (ndA l (p:Int)).n=nn at *
  generalize (ndA l (p:Int)).pl=pl at *
  generalize (ndA l (p:Int)).tx=tx at *
  generalize (ndA l (p:Int)).ks.length=m at *
  have s0:=cell_regrown e0
  have s1:=cell_regrown e1
  have s2:=cell_regrown es
  have s3:=cell_regrown ck
  have cq:∀d os,Calls Tryz.prog 78 #[.agg #[.slice (some ⟨bA,off,none⟩) n c,.int .i64 r],.int .i64 (k:Int)] (grow (redrawn W1 d) os) fun e w''=>e = .returned (.int .i64 tq)∧∃p:Regrown,w''=grow (redrawn W1 p.d) p.os:=fun d os=>Calls.regrown_of (HTY.out _ (below_regrown W1 d os))
  by_cases ht:tq=2
  ·have h1:(tq==2)=true:=by simp[ht]
   rw[decide_eq_true ht,show toldZ true=0 from rfl]
   clear ht
   have ct:∀d os,Calls Tryz.prog 75 #[.bool true] (grow (redrawn W1 d) os) fun e w''=>e = .returned (.int .i64 0)∧∃p:Regrown,w''=grow (redrawn W1 p.d) p.os:=fun d os=>Calls.regrown_of (told_any true _)
   go_enter Tryz.func40,Tryz.ntmps40
   go_upto_region 36 with(fail)
   refine wp_region_quiet_below (by kernel_rfl) (by kernel_rfl) ?_
   repeat (go_big_quiet_step (first|exact cq _ _ |exact ct _ _))
   refine wpQuiet_nil ?_
   intro _ hw'
   obtain⟨⟨dq,osq⟩,hw''⟩:=hw'
   subst hw''
   have hbq:=below_regrown W1 dq osq
   generalize grow (redrawn W1 dq) osq=W4 at *
   have HE:=Lib.hid (bt HB0.out (bt HB1.out hbq))
   clear hbq cq ct
   go_wp2
   go_ret
   exact⟨rfl,HE.out⟩
  ·have h1:(tq==2)=false:=beq_eq_false_iff_ne.2 ht
   rw[decide_eq_false ht,show toldZ false=5 from rfl]
   clear ht
   have ct:∀d os,Calls Tryz.prog 75 #[.bool false] (grow (redrawn W1 d) os) fun e w''=>e = .returned (.int .i64 5)∧∃p:Regrown,w''=grow (redrawn W1 p.d) p.os:=fun d os=>Calls.regrown_of (told_any false _)
   go_enter Tryz.func40,Tryz.ntmps40
   go_upto_region 36 with(fail)
   refine wp_region_quiet_below (by kernel_rfl) (by kernel_rfl) ?_
   repeat (go_big_quiet_step (first|exact cq _ _ |exact ct _ _))
   refine wpQuiet_nil ?_
   intro _ hw'
   obtain⟨⟨dq,osq⟩,hw''⟩:=hw'
   subst hw''
   have hbq:=below_regrown W1 dq osq
   generalize grow (redrawn W1 dq) osq=W4 at *
   have HE:=Lib.hid (bt HB0.out (bt HB1.out hbq))
   clear hbq cq ct
   go_wp2
   go_ret
   exact⟨rfl,HE.out⟩
 ·obtain⟨k0,ks0,hks⟩:=HAFF.out.one (by omega)
  obtain⟨k,rfl,hki⟩:=HKID.out k0 (by rw[hks];simp)
  have hka:(kidA l p 0).toNat=k:=by unfold kidA;rw[hks];rfl
  have hkn:k<n:=by omega
  have HTY:=Lib.hid (fun W (q:Below W1.heap.size W1 W)=>typed_any (HT1.out.below q) c k hkn)
  have hI:=HI.out
  obtain⟨bK,oK,rfl,hbK,hcK⟩:=hI (by rw[hks];simp)
  have ck0:=hcK 0 (by rw[hks];simp)
  have hml:0<(ndA l p).ks.length:=by rw[hks];simp
  have ck:W1.cell? ⟨bK,oK,none⟩=some (.int .i64 (k:Int)):=by rw[show W1.cell? ⟨bK,oK,none⟩=_ from ck0];simp only[hks];rfl
  clear ck0
  have hmz:(0:Int)<(((ndA l p).ks.length:Nat):Int):=by omega
  have HVAL:wrA l p=toldZ (decide (typA l (kidA l p 0).toNat=2)):=by
   unfold wrA
   rw[hk,if_neg (by decide),if_neg (by decide),if_neg (by decide),if_neg (by decide),if_neg (by decide),if_neg (by decide),if_neg (by decide),if_neg (by decide),if_neg (by decide),if_neg (by decide),if_pos (by decide)]
  rw[hka]at HVAL
  rw[HVAL]
  rw[hk]at hW1 ek HX1 x0
  clear HVAL hk
  clear hka hI hcK hki hkn hks hml
  clear HT1 HAFF HPL HRT HI HKID HROOT
  generalize typA l k=tq at *
  generalize (ndA l (p:Int)).n=nn at *
  generalize (ndA l (p:Int)).pl=pl at *
  generalize (ndA l (p:Int)).tx=tx at *
  generalize (ndA l (p:Int)).ks.length=m at *
  have s0:=cell_regrown e0
  have s1:=cell_regrown e1
  have s2:=cell_regrown es
  have s3:=cell_regrown ck
  have cq:∀d os,Calls Tryz.prog 78 #[.agg #[.slice (some ⟨bA,off,none⟩) n c,.int .i64 r],.int .i64 (k:Int)] (grow (redrawn W1 d) os) fun e w''=>e = .returned (.int .i64 tq)∧∃p:Regrown,w''=grow (redrawn W1 p.d) p.os:=fun d os=>Calls.regrown_of (HTY.out _ (below_regrown W1 d os))
  by_cases ht:tq=2
  ·have h1:(tq==2)=true:=by simp[ht]
   rw[decide_eq_true ht,show toldZ true=0 from rfl]
   clear ht
   have ct:∀d os,Calls Tryz.prog 75 #[.bool true] (grow (redrawn W1 d) os) fun e w''=>e = .returned (.int .i64 0)∧∃p:Regrown,w''=grow (redrawn W1 p.d) p.os:=fun d os=>Calls.regrown_of (told_any true _)
   go_enter Tryz.func40,Tryz.ntmps40
   go_upto_region 36 with(fail)
   refine wp_region_quiet_below (by kernel_rfl) (by kernel_rfl) ?_
   repeat (go_big_quiet_step (first|exact cq _ _ |exact ct _ _))
   refine wpQuiet_nil ?_
   intro _ hw'
   obtain⟨⟨dq,osq⟩,hw''⟩:=hw'
   subst hw''
   have hbq:=below_regrown W1 dq osq
   generalize grow (redrawn W1 dq) osq=W4 at *
   have HE:=Lib.hid (bt HB0.out (bt HB1.out hbq))
   clear hbq cq ct
   go_wp2
   go_ret
   exact⟨rfl,HE.out⟩
  ·have h1:(tq==2)=false:=beq_eq_false_iff_ne.2 ht
   rw[decide_eq_false ht,show toldZ false=5 from rfl]
   clear ht
   have ct:∀d os,Calls Tryz.prog 75 #[.bool false] (grow (redrawn W1 d) os) fun e w''=>e = .returned (.int .i64 5)∧∃p:Regrown,w''=grow (redrawn W1 p.d) p.os:=fun d os=>Calls.regrown_of (told_any false _)
   go_enter Tryz.func40,Tryz.ntmps40
   go_upto_region 36 with(fail)
   refine wp_region_quiet_below (by kernel_rfl) (by kernel_rfl) ?_
   repeat (go_big_quiet_step (first|exact cq _ _ |exact ct _ _))
   refine wpQuiet_nil ?_
   intro _ hw'
   obtain⟨⟨dq,osq⟩,hw''⟩:=hw'
   subst hw''
   have hbq:=below_regrown W1 dq osq
   generalize grow (redrawn W1 dq) osq=W4 at *
   have HE:=Lib.hid (bt HB0.out (bt HB1.out hbq))
   clear hbq cq ct
   go_wp2
   go_ret
   exact⟨rfl,HE.out⟩
 ·have HVAL:wrA l p=clA l p:=by
   unfold wrA
   rw[hk,if_neg (by decide),if_neg (by decide),if_neg (by decide),if_neg (by decide),if_neg (by decide),if_neg (by decide),if_neg (by decide),if_neg (by decide),if_neg (by decide),if_neg (by decide),if_neg (by decide),if_pos (by decide)]
  have HC:=Lib.hid (rcall_any HT1.out c p hp hk)
  rw[HVAL]
  rw[hk]at hW1 ek HX1 x0
  clear HVAL hk
  clear HT1 HAFF HPL HRT HI HKID HROOT
  generalize clA l p=cz at *
  generalize (ndA l (p:Int)).n=nn at *
  generalize (ndA l (p:Int)).pl=pl at *
  generalize (ndA l (p:Int)).tx=tx at *
  generalize (ndA l (p:Int)).ks.length=m at *
  go_enter Tryz.func40,Tryz.ntmps40
  go_wp2_with (go_at_call 79;refine HC.out.mono ?_)
  rintro e w2 ⟨rfl,hb2⟩
  have HE:=Lib.hid (bt HB0.out (bt HB1.out hb2))
  clear hb2
  go_wp2
  go_ret
  exact⟨rfl,HE.out⟩
 ·have HVAL:wrA l p=retA l p:=by
   unfold wrA
   rw[hk,if_neg (by decide),if_neg (by decide),if_neg (by decide),if_neg (by decide),if_neg (by decide),if_neg (by decide),if_neg (by decide),if_neg (by decide),if_neg (by decide),if_neg (by decide),if_neg (by decide),if_neg (by decide),if_pos (by decide)]
  obtain⟨q,how,_,hql,_⟩:=HRT.out.owns HPL.out.1 (by omega)
  have hqn:q<n:=by rw[HPL.out.2];exact hql
  have hqz:(q:Int)<(n:Int):=by omega
  have hOW:=fun W (k:Below W1.heap.size W1 W)=>rowner_any (HT1.out.below k) c p hp
  rw[how]at hOW
  have HOW:=Lib.hid hOW
  obtain⟨bB,off2,_,_,e3,yt,_,y1,_⟩:=HT1.out.node hqn
  cases e3
  have HY:=Lib.hid (And.intro yt y1)
  unfold retA at HVAL
  rw[how]at HVAL
  have cq:∀d os,Calls Tryz.prog 80 #[.agg #[.slice (some ⟨bA,off,none⟩) n c,.int .i64 r],.int .i64 (p:Int)] (grow (redrawn W1 d) os) fun e w''=>e = .returned (.int .i64 (q:Int))∧∃p:Regrown,w''=grow (redrawn W1 p.d) p.os:=fun d os=>Calls.regrown_of (HOW.out _ (below_regrown W1 d os))
  have s0:=cell_regrown e0
  have s1:=cell_regrown e1
  have s2:=cell_regrown y1
  clear how hql hOW yt y1
  by_cases hnil:(ndA l p).ks=[]
  ·rw[if_pos hnil]at HVAL
   rw[HVAL]
   rw[hk]at hW1 ek HX1 x0
   rw[hnil,show([]:List Int).length=0 from rfl]at hW1 es HX1 x4
   clear HVAL hk hnil hqn
   clear HT1 HAFF HPL HRT HI HKID HROOT
   generalize (ndA l (q:Int)).n=an at *
   generalize (ndA l (p:Int)).n=nn at *
   generalize (ndA l (p:Int)).pl=pl at *
   generalize (ndA l (p:Int)).tx=tx at *
   go_enter Tryz.func40,Tryz.ntmps40
   go_upto_region 40 with(fail)
   refine wp_region_quiet_below (by kernel_rfl) (by kernel_rfl) ?_
   repeat (go_big_quiet_step (first|exact cq _ _))
   refine wpQuiet_nil ?_
   intro _ hw'
   obtain⟨⟨dq,osq⟩,hw''⟩:=hw'
   subst hw''
   have hbq:=below_regrown W1 dq osq
   generalize grow (redrawn W1 dq) osq=W4 at *
   have HB4:=Lib.hid hbq
   have vs:=((HX1.out.2.below hbq HX1.out.2.lt).cell 4).trans rfl
   clear hbq cq s0 s1 s2
   have HTO:=Lib.hid (fun(b:Bool)=>told_any b W4)
   by_cases ha:an=0
   ·have h1:(an==0)=true:=by simp[ha]
    have HA:=Lib.hid ha
    clear ha
    go_wp2_with (go_at_call 75;refine(HTO.out true).mono ?_)
    rintro e w9 ⟨rfl,hb9⟩
    have HE:=Lib.hid (bt HB0.out (bt HB1.out (bt HB4.out hb9)))
    clear hb9
    go_wp2
    go_ret
    exact⟨by rw[decide_eq_true HA.out];try rfl,HE.out⟩
   ·have h1:(an==0)=false:=beq_eq_false_iff_ne.2 ha
    have HA:=Lib.hid ha
    clear ha
    go_wp2_with (go_at_call 75;refine(HTO.out false).mono ?_)
    rintro e w9 ⟨rfl,hb9⟩
    have HE:=Lib.hid (bt HB0.out (bt HB1.out (bt HB4.out hb9)))
    clear hb9
    go_wp2
    go_ret
    exact⟨by rw[decide_eq_false HA.out];try rfl,HE.out⟩
  ·rw[if_neg hnil]at HVAL
   obtain⟨k0,ks0,hks⟩:∃k ks,(ndA l p).ks=k :: ks:=by
    match e:(ndA l p).ks,hnil with
    |k :: ks,_=>exact⟨k,ks,rfl⟩
   obtain⟨k,rfl,hki⟩:=HKID.out k0 (by rw[hks];simp)
   have hka:(kidA l p 0).toNat=k:=by unfold kidA;rw[hks];rfl
   have hkn:k<n:=by omega
   have HTY:=Lib.hid (fun W (q:Below W1.heap.size W1 W)=>typed_any (HT1.out.below q) c k hkn)
   have hI:=HI.out
   obtain⟨bK,oK,rfl,hbK,hcK⟩:=hI (by rw[hks];simp)
   have ck0:=hcK 0 (by rw[hks];simp)
   have ck:W1.cell? ⟨bK,oK,none⟩=some (.int .i64 (k:Int)):=by rw[show W1.cell? ⟨bK,oK,none⟩=_ from ck0];simp only[hks];rfl
   clear ck0
   have HCK:=Lib.hid (And.intro hbK ck)
   have hml:0<(ndA l p).ks.length:=by rw[hks];simp
   have hmz:(0:Int)<(((ndA l p).ks.length:Nat):Int):=by omega
   have hmn:((((ndA l p).ks.length:Nat):Int)==0)=false:=beq_eq_false_iff_ne.2 (by omega)
   rw[hka]at HVAL
   rw[HVAL]
   rw[hk]at hW1 ek HX1 x0
   clear HVAL hk hnil hqn hka hI hcK hki hkn hks hml hbK ck
   clear HT1 HAFF HPL HRT HI HKID HROOT
   generalize typA l k=tq at *
   generalize (ndA l (q:Int)).n=an at *
   generalize (ndA l (p:Int)).n=nn at *
   generalize (ndA l (p:Int)).pl=pl at *
   generalize (ndA l (p:Int)).tx=tx at *
   generalize (ndA l (p:Int)).ks.length=m at *
   go_enter Tryz.func40,Tryz.ntmps40
   go_upto_region 40 with(fail)
   refine wp_region_quiet_below (by kernel_rfl) (by kernel_rfl) ?_
   repeat (go_big_quiet_step (first|exact cq _ _))
   refine wpQuiet_nil ?_
   intro _ hw'
   obtain⟨⟨dq,osq⟩,hw''⟩:=hw'
   subst hw''
   have hbq:=below_regrown W1 dq osq
   generalize grow (redrawn W1 dq) osq=W4 at *
   have HB4:=Lib.hid hbq
   have v0:=((HX1.out.1.below hbq HX1.out.1.lt).cell 0).trans rfl
   have v1:=((HX1.out.1.below hbq HX1.out.1.lt).cell 1).trans rfl
   have vs:=((HX1.out.2.below hbq HX1.out.2.lt).cell 4).trans rfl
   have vk:=(hbq.cell (p:=⟨bK,oK,none⟩) HCK.out.1).trans HCK.out.2
   clear cq s0 s1 s2
   have s0:=cell_regrown v0
   have s1:=cell_regrown v1
   have s2:=cell_regrown vs
   have s3:=cell_regrown vk
   have cq:∀d os,Calls Tryz.prog 78 #[.agg #[.slice (some ⟨bA,off,none⟩) n c,.int .i64 r],.int .i64 (k:Int)] (grow (redrawn W4 d) os) fun e w''=>e = .returned (.int .i64 tq)∧∃p:Regrown,w''=grow (redrawn W4 p.d) p.os:=fun d os=>Calls.regrown_of (HTY.out _ (bt HB4.out (below_regrown W4 d os)))
   have ct:∀(b:Bool) d os,Calls Tryz.prog 75 #[.bool b] (grow (redrawn W4 d) os) fun e w''=>e = .returned (.int .i64 (toldZ b))∧∃p:Regrown,w''=grow (redrawn W4 p.d) p.os:=fun b d os=>Calls.regrown_of (told_any b _)
   clear hbq v0 v1 vk
   by_cases ha:an=0
   ·subst ha
    have HVX:=Lib.hid (show(decide ((0:Int)≠0)&&decide (tq=0))=false by simp)
    have ctb:=ct false
    go_upto_region 43 with(fail)
    refine wp_region_quiet_below (by kernel_rfl) (by kernel_rfl) ?_
    repeat (go_big_quiet_step (first|exact cq _ _ |exact ctb _ _))
    refine wpQuiet_nil ?_
    intro _ hw'
    obtain⟨⟨dq,osq⟩,hw''⟩:=hw'
    subst hw''
    have hbr:=below_regrown W4 dq osq
    generalize grow (redrawn W4 dq) osq=W6 at *
    have HE:=Lib.hid (bt HB0.out (bt HB1.out (bt HB4.out hbr)))
    clear hbr cq ct ctb
    go_wp2
    go_ret
    exact⟨by rw[HVX.out];try rfl,HE.out⟩
   ·have h1:(an != 0)=true:=by simp[ha]
    by_cases ht:tq=an
    ·have h2:(tq==an)=true:=by simp[ht]
     have HVX:=Lib.hid (show(decide (an≠0)&&decide (tq=an))=true by simp[ha,ht])
     clear ha ht
     have ctb:=ct true
     go_upto_region 43 with(fail)
     refine wp_region_quiet_below (by kernel_rfl) (by kernel_rfl) ?_
     repeat (go_big_quiet_step (first|exact cq _ _ |exact ctb _ _))
     refine wpQuiet_nil ?_
     intro _ hw'
     obtain⟨⟨dq,osq⟩,hw''⟩:=hw'
     subst hw''
     have hbr:=below_regrown W4 dq osq
     generalize grow (redrawn W4 dq) osq=W6 at *
     have HE:=Lib.hid (bt HB0.out (bt HB1.out (bt HB4.out hbr)))
     clear hbr cq ct ctb
     go_wp2
     go_ret
     exact⟨by rw[HVX.out];try rfl,HE.out⟩
    ·have h2:(tq==an)=false:=beq_eq_false_iff_ne.2 ht
     have HVX:=Lib.hid (show(decide (an≠0)&&decide (tq=an))=false by simp[ht])
     clear ha ht
     have ctb:=ct false
     go_upto_region 43 with(fail)
     refine wp_region_quiet_below (by kernel_rfl) (by kernel_rfl) ?_
     repeat (go_big_quiet_step (first|exact cq _ _ |exact ctb _ _))
     refine wpQuiet_nil ?_
     intro _ hw'
     obtain⟨⟨dq,osq⟩,hw''⟩:=hw'
     subst hw''
     have hbr:=below_regrown W4 dq osq
     generalize grow (redrawn W4 dq) osq=W6 at *
     have HE:=Lib.hid (bt HB0.out (bt HB1.out (bt HB4.out hbr)))
     clear hbr cq ct ctb
     go_wp2
     go_ret
     exact⟨by rw[HVX.out];try rfl,HE.out⟩
 ·have HVAL:wrA l p=0:=by
   simp only[beq_eq_false_iff_ne]at hk
   unfold wrA
   rw[if_neg (by omega),if_neg (by omega),if_neg (by omega),if_neg (by omega),if_neg (by omega),if_neg (by omega),if_neg (by omega),if_neg (by omega),if_neg (by omega),if_neg (by omega),if_neg (by omega),if_neg (by omega),if_neg (by omega)]
  rw[HVAL]
  clear HVAL
  obtain⟨f2,f3,f4,f5,f22,f23,f8,f17,f24,f9,f16,f25,f26,f27,f7,f10,f15,f11,f12,f13,f14⟩:=hk
  clear HT1 HAFF HPL HRT HI HKID HROOT
  generalize (ndA l (p:Int)).kd=kd at *
  generalize (ndA l (p:Int)).n=nn at *
  generalize (ndA l (p:Int)).pl=pl at *
  generalize (ndA l (p:Int)).tx=tx at *
  generalize (ndA l (p:Int)).ks.length=m at *
  go_enter Tryz.func40,Tryz.ntmps40
  go_wp2
  go_ret
  exact⟨rfl,bt HB0.out HB1.out⟩
end
end Go.Proofs.YtignojhijmamhaaGreat.Ty
