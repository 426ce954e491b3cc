/- PROVED here: parts TyDj TyDl of the claim. No condition but those in each theorem's own head. -/
import Derived.Test.YtignojhijmamhaaGreatJ46
namespace Go.Proofs.YtignojhijmamhaaGreat.Ty
open Go Go.RowKit Go.Sort
open Tr (Bx heap1 bt Nds Ints VPost BPost rgB par par_yes par_root par_node paL kidsAt IsPost)
section
variable {w:World} {l:List Tr.Nd} {A:Option Addr} {n:Nat} {r:Int}
set_option maxRecDepth 100000 in
set_option maxHeartbeats 8000000 in
theorem rcheck_any (h:TT w A n l)(c:Nat)(r:Int):Calls Tryz.prog 23 #[.agg #[.slice A n c,.int .i64 r]] w (VPost (.tuple #[.int .i64 (chkT l r).1,.int .i64 (chkT l r).2]) w):=by
 have hb0:=heap1 w (.cells #[.slice A n c,.int .i64 r] 24)
 have HX:=Lib.hid (Bx.new w 24 [.slice A n c,.int .i64 r])
 have HB0:=Lib.hid hb0
 have HT:=Lib.hid (h.below hb0)
 obtain⟨W0,hW0⟩:∃W0,w.alloc (.cells #[.slice A n c,.int .i64 r] 24)=W0:=⟨_,rfl⟩
 rw[hW0]at HX HB0 HT
 clear h hb0
 have HRG:=Lib.hid (Tr.rright_any A c n l r W0 HT.out.nds HT.out.len HT.out.kids HT.out.text)
 have a0:=(HX.out.cell 0).trans rfl
 have a1:=(HX.out.cell 1).trans rfl
 unfold chkT
 cases hr:rgB l r with
 |false=>
  rw[hr]at HRG
  rw[if_neg (by decide)]
  clear hr
  go_enter Tryz.func23,Tryz.ntmps23
  go_wp2_with (go_at_call 39;refine HRG.out.mono ?_)
  rintro e w1 ⟨rfl,hb1⟩
  have HE:=Lib.hid (bt HB0.out hb1)
  clear hb1
  go_wp2
  exact bodyPost_ret (v :=.tuple #[.int .i64 0,.int .i64 1]) (by simp[results,Tryz.f23,go_sem]) rfl ⟨rfl,HE.out⟩
 |true=>
  rw[hr]at HRG
  rw[if_pos rfl]
  have HRT0:=Lib.hid (show∀W,Below W0.heap.size W0 W→RT W A n l r from fun W q=>⟨HT.out.below q,hr⟩)
  obtain⟨b,hRT⟩:=(rtn_of hr).1
  have HRT:=Lib.hid hRT
  have HLN:=Lib.hid HT.out.len
  have HROOT:=Lib.hid (And.intro (HRT0.out W0 (Below.refl _ _)).root (show l.length-1<n by have:=hRT.len;rw[HLN.out];omega))
  have hn4:n≤4000:=(HRT0.out W0 (Below.refl _ _)).few
  have hn1:0<n:=by rw[HLN.out];exact hRT.len
  obtain⟨bA0,off0,k0,c0,rfl,n0,n1,n2,n3,n4,n5,n6⟩:=(HRT0.out W0 (Below.refl _ _)).node hn1
  clear hr hRT HT n0 n1 n2 n3 n4 n5 n6 hn1
  go_enter Tryz.func23,Tryz.ntmps23
  go_wp2_with (go_at_call 39;refine HRG.out.mono ?_)
  rintro e w1 ⟨rfl,hb1⟩
  have HB1:=Lib.hid hb1
  have HX1:=Lib.hid (HX.out.below hb1 HX.out.lt)
  clear hb1 a0 a1 HRG HX hW0
  go_wp2
  go_loopg [5] n (fun g v wr=>∃i:Nat,v = .int .i64 (i:Int)∧i≤n∧g=n-i∧(∀j,j<i→fauA l j=0)∧Below w1.heap.size w1 wr)
  case atStart=>exact⟨0,rfl,Nat.zero_le _,rfl,fun j hj=>absurd hj (Nat.not_lt_zero _),Below.refl _ _⟩
  case round=>
   obtain⟨i,rfl,hi,rfl,ht,hb⟩:=hrel
   have HB:=Lib.hid hb
   have HE:=Lib.hid ht
   have a0:=((HX1.out.below hb HX1.out.lt).cell 0).trans rfl
   have a1:=((HX1.out.below hb HX1.out.lt).cell 1).trans rfl
   clear ht
   by_cases hlt:i<n
   ·have hlz:(i:Int)<(n:Int):=by omega
    have hil:i<l.length:=by rw[← HLN.out];exact hlt
    have hC:=wrong_any (HRT0.out _ (bt HB1.out hb)) c i hlt
    rw[HRT.out.wrong hil HE.out]at hC
    have HC:=Lib.hid hC
    have HIL:=Lib.hid hil
    obtain⟨fz,hfz⟩:∃fz,fauA l i=fz:=⟨_,rfl⟩
    rw[hfz]at HC
    have HFZ:=Lib.hid hfz
    clear hC hfz hil hb
    by_cases hz:fz=0
    ·subst hz
     go_wp2_with (go_at_call 40;refine HC.out.mono ?_)
     rintro e w3 ⟨rfl,hb3⟩
     have HB3:=Lib.hid (bt HB.out hb3)
     clear hb3
     go_wp2
     go_roundg (n-(i+1))
     case measure=>go_light;omega
     case rel=>
      go_light
      exact⟨i+1,by go_num,by omega,rfl,fun j hj=>by rcases Nat.lt_or_eq_of_le (Nat.le_of_lt_succ hj)with e |e;exact HE.out j e;rw[e];exact HFZ.out,HB3.out⟩
    ·have hzn:(fz != 0)=true:=by simp[hz]
     have HRS:=Lib.hid (show chkA l r=((i:Int),fz) by
      unfold chkA
      rw[fstA_is (Nat.zero_le i) HIL.out (by simp[HFZ.out,hz]) (fun j _ hj=>by simp[HE.out j hj])]
      show((i:Int),fauA l i)=_
      rw[HFZ.out])
     clear hz
     go_wp2_with (go_at_call 40;refine HC.out.mono ?_)
     rintro e w3 ⟨rfl,hb3⟩
     have HB3:=Lib.hid (bt HB.out hb3)
     clear hb3
     go_wp2
     exact bodyPost_ret (v :=.tuple #[.int .i64 (i:Int),.int .i64 fz]) (by simp[results,Tryz.f23,go_sem]) rfl ⟨by rw[HRS.out];try rfl,bt HB0.out (bt HB1.out HB3.out)⟩
   ·have hlz:¬(i:Int)<(n:Int):=by omega
    have HN0:=Lib.hid (show fstA (fun p => !decide (fauA l p=0)) 0 l.length=none by
     cases e:fstA (fun p => !decide (fauA l p=0)) 0 l.length with
     |none=>rfl
     |some q=>
      obtain⟨_,h2,h3,_⟩:=fstA_some e
      have h4:=HE.out q (by have:=HLN.out;omega)
      simp[h4]at h3)
    have hRw:=HRT0.out _ (bt HB1.out hb)
    have hof:=of_any hRw c (l.length-1) HROOT.out.2 3 3 ⟨#[109,97,105,110]⟩
    rw[HRT.out.of33,← HROOT.out.1]at hof
    have HC:=Lib.hid hof
    clear hof hRw
    obtain⟨W2,rfl⟩:∃W2,W2=wr:=⟨_,rfl⟩
    cases hq:prF l ⟨#[109,97,105,110]⟩ 0 with
    |none=>
     rw[hq,show optZ none = -1 from rfl]at HC
     have HRS:=Lib.hid (show chkA l r=(r,11)by unfold chkA manB;rw[HN0.out,hq];rfl)
     clear hq
     go_wp2_with (go_at_call 41;refine HC.out.mono ?_)
     rintro e w3 ⟨rfl,hb3⟩
     have v1:=((HX1.out.below (bt HB.out hb3) HX1.out.lt).cell 1).trans rfl
     have HB3:=Lib.hid (bt HB.out hb3)
     clear hb3 a0 a1 hb
     go_wp2
     exact bodyPost_ret (v :=.tuple #[.int .i64 r,.int .i64 11]) (by simp[results,Tryz.f23,go_sem]) rfl ⟨by rw[HRS.out];try rfl,bt HB0.out (bt HB1.out HB3.out)⟩
    |some q=>
     rw[hq,show optZ (some q)=(q:Int)from rfl]at HC
     have hql:=(prF_lt hq).1
     have hqn:q<n:=by rw[HLN.out];exact hql
     have hqz:(q:Int)<(n:Int):=by omega
     have hq0:¬(q:Int)<0:=by omega
     have HPA:=Lib.hid (fun W (k:Below W2.heap.size W2 W)=>params_any (HRT0.out W (bt HB1.out (bt hb k))) c q hqn)
     have HRS:=Lib.hid (show chkA l r=if decide (sgP l q=[])&&decide ((ndA l q).n=0) then (0,0) else (r,11)by unfold chkA manB;rw[HN0.out,hq])
     clear hq hql
     go_wp2_with (go_at_call 41;refine HC.out.mono ?_)
     rintro e w3 ⟨rfl,hb3⟩
     have hb4:=bt HB.out hb3
     have HB3:=Lib.hid hb4
     have HP3:=Lib.hid (HPA.out _ hb3)
     have v0:=((HX1.out.below hb4 HX1.out.lt).cell 0).trans rfl
     have v1:=((HX1.out.below hb4 HX1.out.lt).cell 1).trans rfl
     obtain⟨bA,off,_,_,e3,yt,_,y1,_⟩:=(HRT0.out _ (bt HB1.out hb4)).node hqn
     cases e3
     clear hb3 hb4 a0 a1 hb HPA HC HRT0 yt
     generalize sgP l q=xs at *
     generalize (ndA l (q:Int)).n=an at *
     by_cases ha:an=0
     ·subst ha
      go_wp2_with (go_at_call 42;refine HP3.out.mono ?_)
      rintro e w4 ⟨S,cS,rfl,_,hb5⟩
      have w1:=((HX1.out.below (bt HB3.out hb5) HX1.out.lt).cell 1).trans rfl
      have HB5:=Lib.hid (bt HB3.out hb5)
      clear hb5 v0 v1
      cases xs with
      |nil=>
       go_wp2
       exact bodyPost_ret (v :=.tuple #[.int .i64 0,.int .i64 0]) (by simp[results,Tryz.f23,go_sem]) rfl ⟨by rw[HRS.out];try rfl,bt HB0.out (bt HB1.out HB5.out)⟩
      |cons x xs=>
       have hl0:(0:Int)<(((x :: xs).length:Nat):Int):=by simp only[List.length_cons];omega
       have HRS2:=Lib.hid (show chkA l r=(r,11)by rw[HRS.out];rfl)
       clear HRS
       generalize (x :: xs).length=m at *
       go_wp2
       exact bodyPost_ret (v :=.tuple #[.int .i64 r,.int .i64 11]) (by simp[results,Tryz.f23,go_sem]) rfl ⟨by rw[HRS2.out];try rfl,bt HB0.out (bt HB1.out HB5.out)⟩
     ·have hab:(an != 0)=true:=by simp[ha]
      have HRS2:=Lib.hid (show chkA l r=(r,11)by rw[HRS.out,decide_eq_false ha,Bool.and_false];rfl)
      clear ha HRS
      go_wp2
      exact bodyPost_ret (v :=.tuple #[.int .i64 r,.int .i64 11]) (by simp[results,Tryz.f23,go_sem]) rfl ⟨by rw[HRS2.out];try rfl,bt HB0.out (bt HB1.out HB3.out)⟩
end
end Go.Proofs.YtignojhijmamhaaGreat.Ty
namespace Go.Proofs.YtignojhijmamhaaGreat.Ty
open Go Go.RowKit Go.Sort
open Tr (Bx heap1 bt Nds Ints VPost BPost rgB par par_yes par_root par_node paL kidsAt IsPost)
section
variable {w:World} {l:List Tr.Nd} {A:Option Addr} {n:Nat}
set_option maxRecDepth 100000 in
set_option maxHeartbeats 4000000 in
theorem rType_any (h:TT w A n l)(c:Nat)(r z:Int):Calls Tryz.prog 47 #[.agg #[.slice A n c,.int .i64 r],.int .i64 z] w (Tr.IPost (tpT l r z) w):=by
 have hb0:=heap1 w (.cells #[.slice A n c,.int .i64 r] 24)
 have HX:=Lib.hid (Bx.new w 24 [.slice A n c,.int .i64 r])
 have HB0:=Lib.hid hb0
 have HT:=Lib.hid (h.below hb0)
 obtain⟨W0,hW0⟩:∃W0,w.alloc (.cells #[.slice A n c,.int .i64 r] 24)=W0:=⟨_,rfl⟩
 rw[hW0]at HX HB0 HT
 clear h hb0
 have HRG:=Lib.hid (Tr.rright_any A c n l r W0 HT.out.nds HT.out.len HT.out.kids HT.out.text)
 have a0:=(HX.out.cell 0).trans rfl
 have a1:=(HX.out.cell 1).trans rfl
 have HLN:=Lib.hid HT.out.len
 obtain⟨ov,hov⟩:∃ov,tpT l r z=ov:=⟨_,rfl⟩
 rw[hov]
 have HOV:=Lib.hid hov
 clear hov
 cases hr:rgB l r with
 |false=>
  rw[hr]at HRG
  have HV:=Lib.hid (show ov=0 by
   have:=HOV.out
   unfold tpT at this
   rw[eff_no hr,if_neg (by simp)]at this
   exact this.symm)
  clear hr HOV
  go_enter Tryz.func47,Tryz.ntmps47
  go_wp2_with (go_at_call 39;refine HRG.out.mono ?_)
  rintro e w1 ⟨rfl,hb1⟩
  have HE:=Lib.hid (bt HB0.out hb1)
  have b0:=((HX.out.below hb1 HX.out.lt).cell 0).trans rfl
  clear hb1 a0 a1
  go_wp2
  go_ret
  exact⟨by rw[HV.out];try rfl,HE.out⟩
 |true=>
  rw[hr]at HRG
  have HR:=Lib.hid hr
  clear hr
  by_cases hz0:z<0
  ·have HV:=Lib.hid (show ov=0 by
    have:=HOV.out
    unfold tpT at this
    rw[eff_yes HR.out,if_neg (by omega)]at this
    exact this.symm)
   clear HOV
   go_enter Tryz.func47,Tryz.ntmps47
   go_wp2_with (go_at_call 39;refine HRG.out.mono ?_)
   rintro e w1 ⟨rfl,hb1⟩
   have HE:=Lib.hid (bt HB0.out hb1)
   have b0:=((HX.out.below hb1 HX.out.lt).cell 0).trans rfl
   clear hb1 a0 a1
   go_wp2
   go_ret
   exact⟨by rw[HV.out];try rfl,HE.out⟩
  ·obtain⟨k,rfl⟩:∃k:Nat,z=(k:Int):=⟨z.toNat,by omega⟩
   by_cases hk:k<n
   ·have hkz:¬(n:Int)≤(k:Int):=by omega
    have hkz2:(k:Int)<(n:Int):=by omega
    have HV:=Lib.hid (show ov=typA l k by
     have:=HOV.out
     unfold tpT at this
     rw[eff_yes HR.out,if_pos (by have:=HLN.out;omega)]at this
     exact this.symm)
    have HCC:=Lib.hid (fun W (q:Below W0.heap.size W0 W)=>typed_any (RT.mk (HT.out.below q) HR.out) c k hk)
    clear HOV
    go_enter Tryz.func47,Tryz.ntmps47
    go_wp2_with (go_at_call 39;refine HRG.out.mono ?_)
    rintro e w1 ⟨rfl,hb1⟩
    have HB1:=Lib.hid hb1
    have b0:=((HX.out.below hb1 HX.out.lt).cell 0).trans rfl
    have b1:=((HX.out.below hb1 HX.out.lt).cell 1).trans rfl
    have HC:=Lib.hid (HCC.out _ hb1)
    clear hb1 a0 a1
    go_wp2_with (go_at_call 78;refine HC.out.mono ?_)
    rintro e w2 ⟨rfl,hb2⟩
    have HE:=Lib.hid (bt HB0.out (bt HB1.out hb2))
    clear hb2
    go_wp2
    go_ret
    exact⟨by rw[HV.out];try rfl,HE.out⟩
   ·have hkz:(n:Int)≤(k:Int):=by omega
    have HV:=Lib.hid (show ov=0 by
     have:=HOV.out
     unfold tpT at this
     rw[eff_yes HR.out,if_neg (by have:=HLN.out;omega)]at this
     exact this.symm)
    clear HOV
    go_enter Tryz.func47,Tryz.ntmps47
    go_wp2_with (go_at_call 39;refine HRG.out.mono ?_)
    rintro e w1 ⟨rfl,hb1⟩
    have HE:=Lib.hid (bt HB0.out hb1)
    have b0:=((HX.out.below hb1 HX.out.lt).cell 0).trans rfl
    clear hb1 a0 a1
    go_wp2
    go_ret
    exact⟨by rw[HV.out];try rfl,HE.out⟩
set_option maxRecDepth 100000 in
set_option maxHeartbeats 1500000 in
theorem rProc_any (h:TT w A n l)(c:Nat)(r:Int)(nm:ByteArray):Calls Tryz.prog 45 #[.agg #[.slice A n c,.int .i64 r],.string nm] w (Tr.IPost (pcT l r nm) w):=by
 have hb0:=heap1 w (.cells #[.slice A n c,.int .i64 r] 24)
 have HX:=Lib.hid (Bx.new w 24 [.slice A n c,.int .i64 r])
 have HB0:=Lib.hid hb0
 have HT:=Lib.hid (h.below hb0)
 obtain⟨W0,hW0⟩:∃W0,w.alloc (.cells #[.slice A n c,.int .i64 r] 24)=W0:=⟨_,rfl⟩
 rw[hW0]at HX HB0 HT
 clear h hb0
 have HRG:=Lib.hid (Tr.rright_any A c n l r W0 HT.out.nds HT.out.len HT.out.kids HT.out.text)
 have a0:=(HX.out.cell 0).trans rfl
 have a1:=(HX.out.cell 1).trans rfl
 have HLN:=Lib.hid HT.out.len
 obtain⟨ov,hov⟩:∃ov,pcT l r nm=ov:=⟨_,rfl⟩
 rw[hov]
 have HOV:=Lib.hid hov
 clear hov
 cases hr:rgB l r with
 |false=>
  rw[hr]at HRG
  have HV:=Lib.hid (show ov = -1 by
   have:=HOV.out
   unfold pcT at this
   rw[eff_no hr]at this
   exact this.symm)
  clear hr HOV
  go_enter Tryz.func45,Tryz.ntmps45
  go_wp2_with (go_at_call 39;refine HRG.out.mono ?_)
  rintro e w1 ⟨rfl,hb1⟩
  have HE:=Lib.hid (bt HB0.out hb1)
  have b0:=((HX.out.below hb1 HX.out.lt).cell 0).trans rfl
  clear hb1 a0 a1
  go_wp2
  go_ret
  exact⟨by rw[HV.out];try rfl,HE.out⟩
 |true=>
  rw[hr]at HRG
  have HR:=Lib.hid hr
  have HRT:=Lib.hid (show RT W0 A n l r from RT.mk HT.out hr)
  clear hr
  obtain⟨b,hRT⟩:=HRT.out.rtn
  have hroot:=HRT.out.root
  have hrl:l.length-1<n:=by have:=hRT.len;rw[HLN.out];omega
  have hof:=fun W (q:Below W0.heap.size W0 W)=>of_any (HRT.out.below q) c (l.length-1) hrl 3 3 nm
  rw[hRT.of33,← hroot]at hof
  have HCC:=Lib.hid hof
  have HV:=Lib.hid (show ov=optZ (prF l nm 0) by
   have:=HOV.out
   unfold pcT at this
   rw[eff_yes HR.out]at this
   exact this.symm)
  clear HOV hof hroot hrl hRT
  go_enter Tryz.func45,Tryz.ntmps45
  go_wp2_with (go_at_call 39;refine HRG.out.mono ?_)
  rintro e w1 ⟨rfl,hb1⟩
  have HB1:=Lib.hid hb1
  have b0:=((HX.out.below hb1 HX.out.lt).cell 0).trans rfl
  have b1:=((HX.out.below hb1 HX.out.lt).cell 1).trans rfl
  have HC:=Lib.hid (HCC.out _ hb1)
  clear hb1 a0 a1
  go_wp2_with (go_at_call 41;refine HC.out.mono ?_)
  rintro e w2 ⟨rfl,hb2⟩
  have HE:=Lib.hid (bt HB0.out (bt HB1.out hb2))
  clear hb2
  go_wp2
  go_ret
  exact⟨by rw[HV.out];try rfl,HE.out⟩
end
end Go.Proofs.YtignojhijmamhaaGreat.Ty
