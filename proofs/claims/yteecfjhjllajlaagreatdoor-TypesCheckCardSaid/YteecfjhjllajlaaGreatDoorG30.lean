/- PROVED: Cq Cz Cr Cs Cx TrPa Cp. No more condition. -/
import Derived.Test.YteecfjhjllajlaaGreatDoorG29
set_option maxHeartbeats 8000000
set_option maxRecDepth 100000
namespace Go.Proofs.YteecfjhjllajlaaGreatDoor
open Go.Lib (hid)
open Go Go.RowKit
section
open Tr (Bx ag bt bu Ints aG au fT)
section
variable {w:World} {l:List Tr.Nd} {A O:Option Addr} {n bd bp:Nat}
theorem Bp (h:kX w l A n O bd bp)(hcp:n_ w A l)(c co p:Nat)(hp:p<n)(hF:Mw l p):Calls Tryz.prog 82 #[fJ A n c O co bd bp,.int .i64 (p:Int)] w (Tr.az (iR l p) w):=by
 unfold fJ;have hb0:=ag w (.cells #[.slice A n c,.slice O n co,.map (some bd),.map (some bp)] 83);have hX:=Bx.new w 83 [.slice A n c,.slice O n co,.map (some bd),.map (some bp)];obtain⟨W0,hW0⟩:∃W0,w.alloc (.cells #[.slice A n c,.slice O n co,.map (some bd),.map (some bp)] 83)=W0:=⟨_,rfl⟩;rw[hW0]at hb0 hX;have HB0:=hid hb0;have HX:=hid hX;have b0:=(hX.cell 0).trans rfl;have b1:=(hX.cell 1).trans rfl;have b2:=(hX.cell 2).trans rfl;have b3:=(hX.cell 3).trans rfl;clear hX;have HTK:=hid (λW (hb:Below W0.heap.size W0 W)=>xC (h.below (bt hb0 hb)) c co p hp);have HUK:=hid (λW (hb:Below W0.heap.size W0 W)=>sU (h.below (bt hb0 hb)) c co p hp hF);have HMT:=hid (λW (hb:Below W0.heap.size W0 W) (hu:eT l p=false)=>rZ (h.below (bt hb0 hb)) (hcp.below h.nds (bt hb0 hb)) c co p hp hF hu);unfold fJ at HTK HUK HMT;unfold iR;clear h hcp hF hp hb0;cases ht:nA l p with
 |true=>
  have HC1:=hid (HTK.out _ (Below.refl _ _));rw[ht]at HC1;rw[if_pos rfl];clear HTK HUK HMT ht;go_enter Tryz.func82,Tryz.ntmps82
  try rw[hW0]
  go_wp2_with (go_at_call 142;refine HC1.out.mono ?_);rintro e w1 ⟨rfl,hq1⟩;have hb1:=hq1;have HB1:=hid hb1;clear hb1 hq1;go_wp2
  go_ret
  exact⟨rfl,bt HB0.out HB1.out⟩
 |false=>
  have HC1:=hid (HTK.out _ (Below.refl _ _));rw[ht]at HC1;rw[if_neg (by decide)];clear HTK ht;cases hu:eT l p with
  |true=>
   rw[if_pos rfl];clear HMT;go_enter Tryz.func82,Tryz.ntmps82
   go_wp2_with (go_at_call 142;refine HC1.out.mono ?_);rintro e w1 ⟨rfl,hq1⟩;have hb1:=hq1;have HB1:=hid hb1;have hBa:=HX.out.below hb1 HX.out.lt;have c0:=(hBa.cell 0).trans rfl;have c1:=(hBa.cell 1).trans rfl;have c2:=(hBa.cell 2).trans rfl;have c3:=(hBa.cell 3).trans rfl;clear hBa;have HC2:=hid (HUK.out _ hb1);rw[hu]at HC2;clear hb1 hq1 hu HUK;go_wp2_with (go_at_call 143;refine HC2.out.mono ?_);rintro e w2 ⟨rfl,hq2⟩;have hb2:=bt HB1.out hq2;have HB2:=hid hb2;clear hb2 hq2;go_wp2
   go_ret
   exact⟨rfl,bt HB0.out HB2.out⟩
  |false=>
   rw[if_neg (by decide)];cases hm:f_ l p with
   |true=>
    rw[if_pos rfl];go_enter Tryz.func82,Tryz.ntmps82
    go_wp2_with (go_at_call 142;refine HC1.out.mono ?_);rintro e w1 ⟨rfl,hq1⟩;have hb1:=hq1;have HB1:=hid hb1;have hBa:=HX.out.below hb1 HX.out.lt;have c0:=(hBa.cell 0).trans rfl;have c1:=(hBa.cell 1).trans rfl;have c2:=(hBa.cell 2).trans rfl;have c3:=(hBa.cell 3).trans rfl;clear hBa;have HC2:=hid (HUK.out _ hb1);rw[hu]at HC2;clear hb1 hq1;go_wp2_with (go_at_call 143;refine HC2.out.mono ?_);rintro e w2 ⟨rfl,hq2⟩;have hb2:=bt HB1.out hq2;have HB2:=hid hb2;have hBa:=HX.out.below hb2 HX.out.lt;have d0:=(hBa.cell 0).trans rfl;have d1:=(hBa.cell 1).trans rfl;have d2:=(hBa.cell 2).trans rfl;have d3:=(hBa.cell 3).trans rfl;clear hBa;have HC3:=hid (HMT.out _ hb2 hu);rw[hm]at HC3;clear hb2 hq2 hm hu HUK HMT c0 c1 c2 c3;go_wp2_with (go_at_call 144;refine HC3.out.mono ?_);rintro e w3 ⟨rfl,hq3⟩;have hb3:=bt HB2.out hq3;have HB3:=hid hb3;clear hb3 hq3;go_wp2
    go_ret
    exact⟨rfl,bt HB0.out HB3.out⟩
   |false=>
    rw[if_neg (by decide)];go_enter Tryz.func82,Tryz.ntmps82
    go_wp2_with (go_at_call 142;refine HC1.out.mono ?_);rintro e w1 ⟨rfl,hq1⟩;have hb1:=hq1;have HB1:=hid hb1;have hBa:=HX.out.below hb1 HX.out.lt;have c0:=(hBa.cell 0).trans rfl;have c1:=(hBa.cell 1).trans rfl;have c2:=(hBa.cell 2).trans rfl;have c3:=(hBa.cell 3).trans rfl;clear hBa;have HC2:=hid (HUK.out _ hb1);rw[hu]at HC2;clear hb1 hq1;go_wp2_with (go_at_call 143;refine HC2.out.mono ?_);rintro e w2 ⟨rfl,hq2⟩;have hb2:=bt HB1.out hq2;have HB2:=hid hb2;have hBa:=HX.out.below hb2 HX.out.lt;have d0:=(hBa.cell 0).trans rfl;have d1:=(hBa.cell 1).trans rfl;have d2:=(hBa.cell 2).trans rfl;have d3:=(hBa.cell 3).trans rfl;clear hBa;have HC3:=hid (HMT.out _ hb2 hu);rw[hm]at HC3;clear hb2 hq2 hm hu HUK HMT c0 c1 c2 c3;go_wp2_with (go_at_call 144;refine HC3.out.mono ?_);rintro e w3 ⟨rfl,hq3⟩;have hb3:=bt HB2.out hq3;have HB3:=hid hb3;clear hb3 hq3;go_wp2
    go_ret
    exact⟨rfl,bt HB0.out HB3.out⟩
end
structure TT (w:World) (A:Option Addr) (n:Nat) (l:List Tr.Nd):Prop where
 nds:bu w A l
 len:n=l.length
 kids:∀x ∈ l,x.ks.length<=4000
 text:∀x ∈ l,x.tx.size<=281474976710656
 num:∀x ∈ l,x.n<=9223372036854775807
 caps:n_ w A l
theorem TT.below {w w':World}{A:Option Addr}{n:Nat}{l:List Tr.Nd}(h:TT w A n l)(hb:Below w.heap.size w w'):TT w' A n l:=
 ⟨h.nds.below hb,h.len,h.kids,h.text,h.num,h.caps.below h.nds hb⟩
theorem TT.right {w:World}{A:Option Addr}{n:Nat}{l:List Tr.Nd}(h:TT w A n l)(c:Nat)(r:Int):Calls Tryz.prog 27 #[.agg #[.slice A n c,.int .i64 r]] w (au (fT l r) w):=Tr.t_ A c n l r w h.nds h.len h.kids h.text h.num
def LU (L:List Tr.Nd)(w:World)(e:Ending)(w':World):Prop:=
 ∃A n c O co bd bp,e=.returned (fJ A n c O co bd bp)/\kX w' L A n O bd bp/\n_ w' A L/\Below w.heap.size w w'
theorem EL {w:World}{A:Option Addr}{n:Nat}{l:List Tr.Nd}(h:TT w A n l)(c:Nat)(r:Int):Calls Tryz.prog 80 #[.agg #[.slice A n c,.int .i64 r]] w (LU (Lr l r) w):=by
 have HR:∀w',Below w.heap.size w w'->Calls Tryz.prog 27 #[.agg #[.slice A n c,.int .i64 r]] w' (au (fT l r) w'):=λw' hb=>(h.below hb).right c r
 cases hr:fT l r with
 |true=>
  rw[hr]at HR;rw[z8 hr];obtain⟨⟨b,hb⟩,h4,_⟩:=p8 hr;have h1:=hb.len;have hl:=h.len;refine callsIn_wide.1 (GV A c n r l w h.nds h.len (by omega) (by omega) h.text HR _ (hid ?_));rintro e w' ⟨n',c',O,co,bd,bp,rfl,hn,hbw,hO,hd,hp⟩;obtain rfl:n'=n:=by omega
  exact⟨A,n',c',O,co,bd,bp,rfl,⟨h.nds.below hbw,h.len,by omega,hO,hd,hp,h.kids,h.text,mf (lZ hr).1⟩,h.caps.below h.nds hbw,hbw⟩
 |false=>
  rw[hr]at HR;rw[EI hr];refine callsIn_wide.1 (GX A c n r w HR _ (hid ?_));rintro e w' ⟨n',c',O,co,bd,bp,rfl,hn,hbw,hO,hd,hp⟩;exact⟨none,n',c',O,co,bd,bp,rfl,⟨λh0=>absurd h0 (Nat.lt_irrefl 0),hn,by rw[hn];exact Nat.zero_le _,hO,hd,hp,λx hx=>(by cases hx),λx hx=>(by cases hx),λp hp=>absurd hp (Nat.not_lt_zero _)⟩,λp bA off K m c hp=>absurd hp (Nat.not_lt_zero _),hbw⟩
end
section
open Tr (Bx ag bt bu Ints aG au fT)
section
variable {w:World} {l:List Tr.Nd} {A:Option Addr} {n:Nat}
theorem mr (h:TT w A n l)(c:Nat)(r:Int):Calls Tryz.prog 36 #[.agg #[.slice A n c,.int .i64 r]] w (aG (.tuple #[.int .i64 (oG l r).1,.int .i64 (oG l r).2]) w):=by
 have hb0:=ag w (.cells #[.slice A n c,.int .i64 r] 25);have HB0:=hid hb0;have HR:=hid (EL (h.below hb0) c r);have HT:=hid (Bx.new w 25 [.slice A n c,.int .i64 r]);unfold oG;cases hr:fT l r with
 |false=>
  rw[EI hr]at HR;rw[if_neg (by decide)];clear h hb0 hr;go_enter Tryz.func36,Tryz.ntmps36
  go_wp2_with (go_at_call 80;refine HR.out.mono ?_);rintro e w1 ⟨A1,n1,c1,O,co,bd,bp,rfl,hP,_,hb1⟩;unfold fJ;obtain rfl:n1=0:=hP.len;have hN:=mU (w1.alloc (.cells #[.slice A1 0 c1,.slice O 0 co,.map (some bd),.map (some bp)] 83)) A1 O 0 bd bp c1 co;unfold fJ at hN;have HN:=hid hN;have HB1:=hid (bt (bt HB0.out hb1) (ag w1 (.cells #[.slice A1 0 c1,.slice O 0 co,.map (some bd),.map (some bp)] 83)));clear hP hb1 hN;go_wp2_with (go_at_call 81;refine HN.out.mono ?_);rintro e w2 ⟨rfl,hb2⟩;have HB2:=hid (bt HB1.out hb2);clear hb2;go_wp2;exact bodyPost_ret (v :=.tuple #[.int .i64 0,.int .i64 1]) (by simp[results,Tryz.f36,go_sem]) rfl ⟨rfl,HB2.out⟩
 |true=>
  rw[z8 hr]at HR;rw[if_pos rfl];obtain⟨⟨b,hRt⟩,hx4,hx5⟩:=p8 hr;have HX4:=hid hx4;clear hx4 hx5;have HRT:=hid hRt;clear h hb0 hr hRt;go_enter Tryz.func36,Tryz.ntmps36
  go_wp2_with (go_at_call 80;refine HR.out.mono ?_);rintro e w1 ⟨A1,n1,c1,O,co,bd,bp,rfl,hP,hC,hb1⟩;unfold fJ;have hbx:=ag w1 (.cells #[.slice A1 n1 c1,.slice O n1 co,.map (some bd),.map (some bp)] 83);have hN:=mU (w1.alloc (.cells #[.slice A1 n1 c1,.slice O n1 co,.map (some bd),.map (some bp)] 83)) A1 O n1 bd bp c1 co;have hX:=Bx.new w1 83 [.slice A1 n1 c1,.slice O n1 co,.map (some bd),.map (some bp)];have hT:=(HT.out.below hb1 HT.out.lt).alloc (.cells #[.slice A1 n1 c1,.slice O n1 co,.map (some bd),.map (some bp)] 83);have HL:=hid hP.len;have h0:decide (n1=0)=false:=decide_eq_false (by have:=HRT.out.len;have:=HL.out;omega);rw[h0]at hN;unfold fJ at hN;have HN:=hid hN;have HB1:=hid (bt (bt HB0.out hb1) hbx);have HP:=hid (And.intro (hP.below hbx) (hC.below hP.nds hbx));have HX:=hid (And.intro hX hT);clear hP hC hb1 hN hX hT hbx h0 HR HT;go_wp2_with (go_at_call 81;refine HN.out.mono ?_);rintro e w2 ⟨rfl,hb2⟩;have HX2:=hid (And.intro (HX.out.1.below hb2 HX.out.1.lt) (HX.out.2.below hb2 HX.out.2.lt));have HP2:=hid (And.intro (HP.out.1.below hb2) (HP.out.2.below HP.out.1.nds hb2));have HB2:=hid (bt HB1.out hb2);have c0:=(HX2.out.1.cell 0).trans rfl;clear hb2 HX HP HB1 HN;go_wp2;clear c0
  go_loopg [14] n1 (λg a14 wr=>∃i:Nat,a14=.int .i64 (i:Int)/\i<=n1/\g=n1-i/\(∀j,j<i->iR l j=0)/\Below w2.heap.size w2 wr)
  case atStart=>exact⟨0,rfl,Nat.zero_le _,rfl,λj hj=>absurd hj (Nat.not_lt_zero _),Below.refl _ _⟩
  case round=>
   obtain⟨i,rfl,hi,rfl,ht,hb⟩:=hrel;have HB:=hid hb;have HE:=hid ht;have hn4:n1<=4000:=by have:=HL.out;have:=HX4.out;omega
   have hXr:=HX2.out.1.below hb HX2.out.1.lt;have b0:=(hXr.cell 0).trans rfl;have b1:=(hXr.cell 1).trans rfl;have b2:=(hXr.cell 2).trans rfl;have b3:=(hXr.cell 3).trans rfl;by_cases hlt:i<n1
   ·have hlz:(i:Int)<(n1:Int):=by omega
    have hil:i<l.length:=by rw[<- HL.out];exact hlt
    have hC:=Bp (HP2.out.1.below hb) (HP2.out.2.below HP2.out.1.nds hb) c1 co i hlt (HRT.out.ndf hil);unfold fJ at hC;have HC:=hid hC;have HIL:=hid hil;obtain⟨fz,hfz⟩:∃fz,iR l i=fz:=⟨_,rfl⟩;rw[hfz]at HC;have HFZ:=hid hfz;clear hXr hb ht hC hfz hil;by_cases hz:fz=0
    ·subst hz;go_wp2_with (go_at_call 82;refine HC.out.mono ?_);rintro e w3 ⟨rfl,hb3⟩;have HB3:=hid (bt HB.out hb3);clear hb3;go_wp2
     go_roundg (n1-(i+1))
     case measure=>go_light;omega
     case rel=>
      go_light
      exact⟨i+1,by go_num,by omega,rfl,λj hj=>by rcases Nat.lt_or_eq_of_le (Nat.le_of_lt_succ hj)with e |e;exact HE.out j e;rw[e];exact HFZ.out,HB3.out⟩
    ·have hzn:(fz != 0)=true:=by simp[hz]
     have HRS:=hid (show nC l r=((i:Int),fz) by
      unfold nC
      rw[vg (Nat.zero_le i) HIL.out (by simp[HFZ.out,hz]) (λj _ hj=>by simp[HE.out j hj])]
      show((i:Int),iR l i)=_
      rw[HFZ.out])
     clear hz;go_wp2_with (go_at_call 82;refine HC.out.mono ?_);rintro e w3 ⟨rfl,hb3⟩;have HB3:=hid (bt HB.out hb3);clear hb3;go_wp2;exact bodyPost_ret (v :=.tuple #[.int .i64 (i:Int),.int .i64 fz]) (by simp[results,Tryz.f36,go_sem]) rfl ⟨by rw[HRS.out];try rfl,bt HB2.out HB3.out⟩
   ·have hlz:¬(i:Int)<(n1:Int):=by omega
    have HN0:=hid (show iH (λp => !decide (iR l p=0)) 0 l.length=none by
     cases e:iH (λp => !decide (iR l p=0)) 0 l.length with
     |none=>rfl
     |some q=>
      obtain⟨_,h2,h3,_⟩:=dQ e
      have h4:=HE.out q (by have:=HL.out;omega)
      simp[h4]at h3)
    have hC:=xu (HP2.out.1.below hb) c1 co;unfold fJ at hC;have HC:=hid hC;have hTr:=HX2.out.2.below hb HX2.out.2.lt;have HTR:=hid hTr;clear hXr hb ht hC hTr;cases hm:wV l with
    |true=>
     rw[hm]at HC;have HRS:=hid (show nC l r=(0,0)by unfold nC;rw[HN0.out];show(if wV l then _ else _)=_;rw[hm];rfl);clear hm;go_wp2_with (go_at_call 83;refine HC.out.mono ?_);rintro e w3 ⟨rfl,hb3⟩;have HB3:=hid (bt HB.out hb3);clear hb3;go_wp2;exact bodyPost_ret (v :=.tuple #[.int .i64 0,.int .i64 0]) (by simp[results,Tryz.f36,go_sem]) rfl ⟨by rw[HRS.out];try rfl,bt HB2.out HB3.out⟩
    |false=>
     rw[hm]at HC;have HRS:=hid (show nC l r=(r,11)by unfold nC;rw[HN0.out];show(if wV l then _ else _)=_;rw[hm];rfl);clear hm;go_wp2_with (go_at_call 83;refine HC.out.mono ?_);rintro e w3 ⟨rfl,hb3⟩;have t1:=((HTR.out.below hb3 HTR.out.lt).cell 1).trans rfl;have HB3:=hid (bt HB.out hb3);clear hb3;go_wp2;exact bodyPost_ret (v :=.tuple #[.int .i64 r,.int .i64 11]) (by simp[results,Tryz.f36,go_sem]) rfl ⟨by rw[HRS.out];try rfl,bt HB2.out HB3.out⟩
end
end
section
open Tr (Bx ag bt bu Ints aG au fT)
end
section
open Tr (Bx ag bt bu Ints aG au fT)
def ND (w:World)(e:Ending)(w':World):Prop:=∃A c,e=.returned (.tuple #[.agg #[.slice A 6 c,.int .i64 5],.int .i64 0,.int .i64 0])/\Below w.heap.size w w'/\iQ w.heap.size w' A (Ig.map jF)
theorem MS {B:Nat}{w:World}{A:Option Addr}(h:iQ B w A (Ig.map jF)):TT w A 6 (Ig.map jF):=⟨h.nds,rfl,by decide +kernel,by decide +kernel,by decide +kernel,λp bA off K m c hp hA hc _ h2=>by have:=h.room hp hA hc;omega⟩
def NE (w:World)(e:Ending)(w':World):Prop:=∃A c,e=.returned (.tuple #[.agg #[.slice A 3 c,.int .i64 2],.int .i64 0,.int .i64 0])/\Below w.heap.size w w'/\iQ w.heap.size w' A (Ih.map jF)
theorem MU {B:Nat}{w:World}{A:Option Addr}(h:iQ B w A (Ih.map jF)):TT w A 3 (Ih.map jF):=⟨h.nds,rfl,by decide +kernel,by decide +kernel,by decide +kernel,λp bA off K m c hp hA hc _ h2=>by have:=h.room hp hA hc;omega⟩
def NF (w:World)(e:Ending)(w':World):Prop:=∃A c,e=.returned (.tuple #[.agg #[.slice A 5 c,.int .i64 4],.int .i64 0,.int .i64 0])/\Below w.heap.size w w'/\iQ w.heap.size w' A (Ii.map jF)
theorem MV {B:Nat}{w:World}{A:Option Addr}(h:iQ B w A (Ii.map jF)):TT w A 5 (Ii.map jF):=⟨h.nds,rfl,by decide +kernel,by decide +kernel,by decide +kernel,λp bA off K m c hp hA hc _ h2=>by have:=h.room hp hA hc;omega⟩
theorem xD (w:World)(hE:Tk.nJ w):Calls Tryz.prog 34 #[] w (aG (.bool true) w):=by
 have H1:=hid (show Calls Tryz.prog 16 #[.string ⟨#[112,114,111,99,32,109,97,105,110,40,41,32,123,32,118,97,114,32,120,32,105,110,116,59,32,120,32,61,32,116,114,117,101,59,32,125]⟩] w (ND w) from(lY _ w hE (by decide)).mono λ_ _ q=>pY q Lv.choose_spec);have H2:=hid (λw' (q:Below w.heap.size w w')=>show Calls Tryz.prog 16 #[.string ⟨#[112,114,111,99,32,102,40,41,32,123,32,125]⟩] w' (NE w') from(lY _ w' (hE.below q) (by decide)).mono λ_ _ q=>pY q LD.choose_spec);have H3:=hid (λw' (q:Below w.heap.size w w')=>show Calls Tryz.prog 16 #[.string ⟨#[112,114,111,99,32,109,97,105,110,40,41,32,123,32,121,32,61,32,49,59,32,125]⟩] w' (NF w') from(lY _ w' (hE.below q) (by decide)).mono λ_ _ q=>pY q LK.choose_spec);clear hE;go_enter Tryz.func34,Tryz.ntmps34
 go_wp2_with (go_at_call 16;refine H1.out.mono ?_);rintro e w1 ⟨A1,c1,rfl,hb1,hN1⟩;have HA1:=hid (bt hb1 (ag w1 (.cells #[.slice A1 6 c1,.int .i64 5] 25)));have HT1:=hid ((MS hN1).below (ag w1 (.cells #[.slice A1 6 c1,.int .i64 5] 25)));have HX1:=hid (Bx.new w1 25 [.slice A1 6 c1,.int .i64 5]);clear hb1 hN1 H1;obtain⟨U1,hU1⟩:∃U1,w1.alloc (.cells #[.slice A1 6 c1,.int .i64 5] 25)=U1:=⟨_,rfl⟩;rw[hU1]at HA1 HT1 HX1;go_wp2_with (go_at_call 16;refine(H2.out _ HA1.out).mono ?_);rintro e w2 ⟨A2,c2,rfl,hb2,hN2⟩;have hbx:=ag w2 (.cells #[.slice A2 3 c2,.int .i64 2] 25);have HA2:=hid (bt (bt HA1.out hb2) hbx);have HT2:=hid ((MU hN2).below hbx);have HT12:=hid ((HT1.out.below hb2).below hbx);have HX2:=hid (Bx.new w2 25 [.slice A2 3 c2,.int .i64 2]);have HX12:=hid ((HX1.out.below hb2 HX1.out.lt).below hbx (HX1.out.below hb2 HX1.out.lt).lt);clear hb2 hN2 H2 hbx HT1 HX1 hU1;obtain⟨U2,hU2⟩:∃U2,w2.alloc (.cells #[.slice A2 3 c2,.int .i64 2] 25)=U2:=⟨_,rfl⟩;rw[hU2]at HA2 HT2 HT12 HX2 HX12;go_wp2_with (go_at_call 16;refine(H3.out _ HA2.out).mono ?_);rintro e w3 ⟨A3,c3,rfl,hb3,hN3⟩;have hbx:=ag w3 (.cells #[.slice A3 5 c3,.int .i64 4] 25);have hb4:=bt hb3 hbx;have HA3:=hid (bt (bt HA2.out hb3) hbx);have HT3:=hid ((MV hN3).below hbx);have HT13:=hid (HT12.out.below hb4);have HT23:=hid (HT2.out.below hb4);have HX3:=hid (Bx.new w3 25 [.slice A3 5 c3,.int .i64 4]);have HX13:=hid (HX12.out.below hb4 HX12.out.lt);have HX23:=hid (HX2.out.below hb4 HX2.out.lt)
 clear hb3 hN3 H3 hbx hb4 HT2 HT12 HX2 HX12 hU2;obtain⟨U3,hU3⟩:∃U3,w3.alloc (.cells #[.slice A3 5 c3,.int .i64 4] 25)=U3:=⟨_,rfl⟩;rw[hU3]at HA3 HT3 HT13 HT23 HX3 HX13 HX23;have q1:∀W,Below U3.heap.size U3 W->Calls Tryz.prog 36 #[.agg #[.slice A1 6 c1,.int .i64 5]] W (aG (.tuple #[.int .i64 2,.int .i64 5]) W):=λW hb=>by have t:=mr (HT13.out.below hb) c1 5;rw[Lx]at t;exact t
 have q2:∀W,Below U3.heap.size U3 W->Calls Tryz.prog 36 #[.agg #[.slice A2 3 c2,.int .i64 2]] W (aG (.tuple #[.int .i64 2,.int .i64 11]) W):=λW hb=>by have t:=mr (HT23.out.below hb) c2 2;rw[LF]at t;exact t
 have q3:∀W,Below U3.heap.size U3 W->Calls Tryz.prog 36 #[.agg #[.slice A3 5 c3,.int .i64 4]] W (aG (.tuple #[.int .i64 1,.int .i64 3]) W):=λW hb=>by have t:=mr (HT3.out.below hb) c3 4;rw[LM]at t;exact t
 have Q1:=hid q1;have Q2:=hid q2;have Q3:=hid q3;have a0:=(HX13.out.cell 0).trans rfl;have a1:=(HX13.out.cell 1).trans rfl;clear q1 q2 q3;go_wp2_with (go_at_call 36;refine(Q1.out _ (Below.refl _ _)).mono ?_);rintro e w4 ⟨rfl,hb4⟩;have HB4:=hid hb4;have b0:=((HX23.out.below hb4 HX23.out.lt).cell 0).trans rfl;have b1:=((HX23.out.below hb4 HX23.out.lt).cell 1).trans rfl;clear hb4 a0 a1;go_wp2_with (go_at_call 36;refine(Q2.out _ HB4.out).mono ?_);rintro e w5 ⟨rfl,hb5⟩;have HB5:=hid (bt HB4.out hb5);have d0:=((HX3.out.below HB5.out HX3.out.lt).cell 0).trans rfl;have d1:=((HX3.out.below HB5.out HX3.out.lt).cell 1).trans rfl;clear hb5 b0 b1;go_wp2_with (go_at_call 36;refine(Q3.out _ HB5.out).mono ?_);rintro e w6 ⟨rfl,hb6⟩;have hb:=bt HB5.out hb6;have HB:=hid (bt HA3.out hb);have e0:=((HX13.out.below hb HX13.out.lt).cell 0).trans rfl;have f1:=((HX23.out.below hb HX23.out.lt).cell 1).trans rfl;have g0:=((HX3.out.below hb HX3.out.lt).cell 0).trans rfl;obtain⟨bA,off,K,cK,rfl,xt,x0,_⟩:=dE (HT13.out.below hb).nds (Below.refl _ w6) 2 (by decide);obtain⟨bB,offB,K2,cK2,rfl,yt,y0,_⟩:=dE (HT3.out.below hb).nds (Below.refl _ w6) 1 (by decide);replace x0:w6.cell? ⟨bA,off+2*5,none⟩=some (.int .i64 7):=x0;replace y0:w6.cell? ⟨bB,offB+5,none⟩=some (.int .i64 7):=by have:=y0;simp only[Nat.one_mul]at this;exact this
 clear hb hb6 d0 d1;go_wp2
 go_ret
 exact⟨rfl,HB.out⟩
end
section
open Tr (Bx ag bt bu Ints aG au fT)
def LV (l:List Tr.Nd):Prop:=l.length<=400/\∀x ∈ l,x.ks.length<=400/\x.tx.size<=200
def z_ (l:List Tr.Nd)(w:World)(e:Ending)(w':World):Prop:=Below w.heap.size w w'/\∃b,e=.returned (.bool b)/\(b=true->LV l)
theorem vI (A:Option Addr)(n c:Nat)(l:List Tr.Nd)(r:Int)(w:World)(hN:bu w A l)(hn:n=l.length):Calls Tryz.prog 35 #[.agg #[.slice A n c,.int .i64 r]] w (z_ l w):=by
 have hb0:=ag w (.cells #[.slice A n c,.int .i64 r] 25);have HNN:=hid (hN.below hb0);have HB:=hid hb0;have HN:=hid hn;clear hN hn hb0;by_cases h4:(400:Int)<(n:Int)
 ·have hd4:decide ((400:Int)<(n:Int))=true:=decide_eq_true h4;go_enter Tryz.func35,Tryz.ntmps35
  go_wp2
  go_ret
  exact⟨HB.out,false,rfl,λh=>by cases h⟩
 ·have hd4:decide ((400:Int)<(n:Int))=false:=decide_eq_false h4;go_enter Tryz.func35,Tryz.ntmps35
  go_wp2
  go_loop [3] (λi=>∃k:Nat,k<=n/\i=.int .i64 (k:Int)/\∀x ∈ l.take k,x.ks.length<=400/\x.tx.size<=200) (λi=>n-(intOf i).toNat)
  case atStart=>exact⟨0,Nat.zero_le _,rfl,λt ht=>by simp at ht⟩
  case round=>
   obtain⟨k,hk,rfl,hok2⟩:=hrel;have HOK2:=hid hok2;clear hok2;by_cases hkl:k<n
   ·have hkz:(k:Int)<(n:Int):=by omega
    have hkt:k<l.length:=by rw[<- HN.out];exact hkl
    obtain⟨bN,oN,rfl,hbN,hcN⟩:=HNN.out (by omega);obtain⟨K2,c2,_,_,_,c3,c4,_⟩:=hcN k hkt;have HXX:=hid (show l.take (k+1)=l.take k++[l[k]]from List.take_succ_eq_append_getElem hkt);clear hcN;generalize l[k]=x at *
    obtain⟨kd,nn,pl,tx,ks⟩:=x;dsimp only at c3 c4;generalize hq:ks.length=q at *
    have HQ:=hid hq;clear hq;by_cases h1:(400:Int)<(q:Int)
    ·have hd1:decide ((400:Int)<(q:Int))=true:=decide_eq_true h1;go_wp2
     go_ret
     exact⟨HB.out,false,rfl,λh=>by cases h⟩
    ·have hd1:decide ((400:Int)<(q:Int))=false:=decide_eq_false h1;by_cases h2:(200:Int)<(tx.size:Int)
     ·have hd2:decide ((200:Int)<(tx.size:Int))=true:=decide_eq_true h2;go_wp2
      go_ret
      exact⟨HB.out,false,rfl,λh=>by cases h⟩
     ·have hd2:decide ((200:Int)<(tx.size:Int))=false:=decide_eq_false h2;go_wp2
      go_round
      case rel=>
       refine⟨k+1,by omega,by go_num,?_⟩;rw[HXX.out];intro x hx;rcases List.mem_append.1 hx with hx |hx
       ·exact HOK2.out x hx
       ·simp at hx;subst hx;exact⟨by show ks.length<=400;rw[HQ.out];omega,by show tx.size<=200;omega⟩
      case measure=>simp[intOf];omega
   ·obtain rfl:k=n:=by omega
    have hkz:¬(k:Int)<(k:Int):=by omega
    go_wp2
    go_ret
    refine⟨HB.out,true,rfl,λ_=>⟨by rw[<- HN.out];omega,?_⟩⟩;have h5:=HOK2.out;rw[List.take_of_length_le (by rw[<- HN.out];omega)]at h5;exact h5
end
namespace Tr
def qp (l:List Nd)(r:Nat):Nat->Nat->Int
 |0=>λj=>if j=r then -1 else 0
 |n+1=>λj=>if (j:Int) ∈ aA l n then (n:Int) else qp l r n j
def gJ (l:List Int)(w:World)(e:Ending)(w':World):Prop:=∃A c,e=.returned (.slice A l.length c)/\Ints w' A l/\Below w.heap.size w w'
open Classical in
noncomputable def par (l:List Nd)(r:Int):List Int:=if gF l r then (List.range l.length).map (qp l (l.length-1) l.length) else []
open Classical in
theorem gL {l:List Nd}{r:Int}(h:gF l r):par l r=(List.range l.length).map (qp l (l.length-1) l.length):=if_pos h
open Classical in
theorem JR {l:List Nd}{r:Int}(h:¬gF l r):par l r=[]:=if_neg h
theorem uk {b:Nat->Nat}(k:Int):∀(ks:List Int) (s e:Nat),(∀q,q<s->b q<=q)->ig b ks s=some e->ks.count k<=1
 | [],_,_,_,_=>by simp
 |x :: ks,s,e,hb,h=>by
  unfold ig at h;split at h
  ·cases h
  split at h
  case isFalse=>cases h
  case isTrue h0 h1=>
   have h2:=hb (s-1) (by omega);have hb':∀q,q<b (s-1)->b q<=q:=λq hq=>hb q (by omega)
   rw[List.count_cons];by_cases e1:x=k
   ·have h3:ks.count k=0:=List.count_eq_zero.2 λhm=>by
     obtain⟨m,e2,e3,_⟩:=iK ks _ e hb' h k hm;omega
    rw[h3];split<;>omega
   ·have:=uk k ks _ e hb' h;have e2:(x==k)=false:=by simpa using e1
    rw[e2];simpa using this
theorem iY.count {l:List Nd}{b:Nat->Nat}{n p:Nat}(h:iY l b n)(hp:p<n){k:Int}(hk:k ∈ aA l p):(aA l p).count k=1:=by
 have h1:=uk k _ p _ (λq hq=>h.le q (by omega)) (h p hp);rw[List.count_reverse]at h1;have h2:=List.count_pos_iff.2 hk;omega
theorem iY.parent {l:List Nd}{b:Nat->Nat}{n:Nat}(h:iY l b n):∀p,p<n->∀q,b p<=q->q<p->∃m,m<=p/\(q:Int) ∈ aA l m:=by
 intro p;induction p using Nat.strongRecOn with
 |_ p ih=>
  intro hp q h1 h2;obtain⟨m,e1,e2,e3,e4⟩:=h.inKid hp h1 h2;by_cases e:q=m
  ·subst e;exact⟨p,Nat.le_refl _,e1⟩
  ·obtain⟨m',h3,h4⟩:=ih m e4 (by omega) q e2 (by omega);exact⟨m',by omega,h4⟩
theorem xE {l:List Nd}{r:Nat}{q:Nat}:∀ {n:Nat},(∃m,m<n/\(q:Int) ∈ aA l m)->∃m:Nat,m<n/\(q:Int) ∈ aA l m/\qp l r n q=(m:Int)
 |0,⟨m,hm,_⟩=>absurd hm (Nat.not_lt_zero m)
 |n+1,⟨m,hm,hk⟩=>by
  by_cases e:(q:Int) ∈ aA l n
  ·exact⟨n,by omega,e,if_pos e⟩
  ·have:m≠n:=λe'=>e (e'▸hk)
   obtain⟨m',h1,h2,h3⟩:=xE (r:=r) (n:=n) ⟨m,by omega,hk⟩;exact⟨m',by omega,h2,(if_neg e).trans h3⟩
theorem xG {l:List Nd}{r:Nat}{q:Nat}:∀ {n:Nat},(∀m,m<n->(q:Int) ∉ aA l m)->qp l r n q=if q=r then -1 else 0
 |0,_=>rfl
 |n+1,h=>(if_neg (h n (by omega))).trans (xG λm hm=>h m (by omega))
theorem fK {l:List Nd}{b:Nat->Nat}{n:Nat}(h:iY l b n):qp l (n-1) n (n-1) = -1:=by
 rw[xG λm hm hk =>?_,if_pos rfl];obtain⟨m',e,h1,_⟩:=h.kid hm hk;omega
theorem eY {l:List Nd}{b:Nat->Nat}{n i:Nat}(h:iY l b n)(h0:b (n-1)=0)(hi:i<n-1):∃m:Nat,m<n/\i<m/\qp l (n-1) n i=(m:Int)/\(aA l m).count (i:Int)=1:=by
 obtain⟨m,h1,h2⟩:=h.parent (n-1) (by omega) i (by omega) hi;obtain⟨m,h3,h4,h5⟩:=xE (r:=n-1) (n:=n) ⟨m,by omega,h2⟩;obtain⟨m',e,h6,_⟩:=h.kid h3 h4;exact⟨m,h3,by omega,h5,h.count h3 h4⟩
end Tr
section
open Tr (Bx ag bt bu Ints aG au fT par gL fK eY qp aA gJ)
theorem JS {l:List Tr.Nd}{r:Int}(hr:fT l r=true):(par l r).length=l.length/\∀i (hi:i<(par l r).length),(par l r)[i]=qp l (l.length-1) l.length i:=by
 have h1:=(lZ hr).1;rw[gL h1];exact⟨by simp,λi hi=>by simp⟩
theorem jP.at3 {l:List Tr.Nd}{b:Nat->Nat}(h:jP l b){i:Nat}(hi:i<l.length) :
  ((ae l i).kd=3/\eQ l i=(i:Int)/\i<l.length-1)\/(i=l.length-1/\(ae l i).kd=1/\eQ l i = -1) \/
  ((ae l i).kd≠3/\i<l.length-1/\∃m:Nat,m<l.length/\qp l (l.length-1) l.length i=(m:Int)/\eQ l i=eQ l m):=by
 by_cases hroot:i=l.length-1
 ·right;left;refine⟨hroot,?_,?_⟩
  ·rw[hroot];exact h.root
  ·rw[hroot];exact h.rootow
 ·have hlt:i<l.length-1:=by omega
  by_cases h3:(ae l i).kd=3
  ·exact Or.inl ⟨h3,rT hi h3,hlt⟩
  ·right;right;obtain⟨m,h4,_,h5,h6⟩:=eY h.st h.zero hlt;have h7:(i:Int) ∈ aA l m:=List.count_pos_iff.1 (by omega);have h8:(i:Int) ∈ (ae l m).ks:=by rw[aH h4,<- Tr.aQ h4];exact h7
   exact⟨h3,hlt,m,h4,h5,h.kid h4 h8 h3⟩
theorem LW {l:List Tr.Nd}{i:Nat}{nm:ByteArray}(h:eQ l i = -1):eO l i nm=none:=by unfold eO;rw[if_pos h]
structure RT (w:World) (A:Option Addr) (n:Nat) (l:List Tr.Nd) (r:Int):Prop where
 tt:TT w A n l
 rg:fT l r=true
theorem RT.below {w w':World}{A:Option Addr}{n:Nat}{l:List Tr.Nd}{r:Int}(h:RT w A n l r)(hb:Below w.heap.size w w'):RT w' A n l r:=⟨h.tt.below hb,h.rg⟩
theorem RT.rtn {w:World}{A:Option Addr}{n:Nat}{l:List Tr.Nd}{r:Int}(h:RT w A n l r):∃b,jP l b:=(p8 h.rg).1
theorem RT.root {w:World}{A:Option Addr}{n:Nat}{l:List Tr.Nd}{r:Int}(h:RT w A n l r):r=((l.length-1:Nat):Int):=by
 obtain⟨⟨b,hb⟩,_,e⟩:=p8 h.rg;have:=hb.len;rw[e];omega
theorem RT.few {w:World}{A:Option Addr}{n:Nat}{l:List Tr.Nd}{r:Int}(h:RT w A n l r):n<=4000:=by
 have:=(p8 h.rg).2.1;rw[h.tt.len];exact this
end
end Go.Proofs.YteecfjhjllajlaaGreatDoor
