/- PROVED here: parts Cq Cz Cr Cs Cx of the claim. No condition but those in each theorem's own head. -/
import Derived.Test.YteecfjhjllajlaaGreatDoorH42
import Derived.Test.YteecfjhjllajlaaGreatDoorH40
import Derived.Test.YteecfjhjllajlaaGreatDoorH37
namespace Go.Proofs.YteecfjhjllajlaaGreatDoor
section
set_option maxHeartbeats 1500000
set_option maxRecDepth 100000
open Go Go.RowKit
open Tr (Bx heap1 bt Nds Ints VPost BPost rgB)
section
variable {w:World} {l:List Tr.Nd} {A O:Option Addr} {n bd bp:Nat}
theorem fault_any (h:Prg w l A n O bd bp)(hcp:Caps w A l)(c co p:Nat)(hp:p<n)(hF:NdF l p):Calls Tryz.prog 82 #[PrV A n c O co bd bp,.int .i64 (p:Int)] w (Tr.IPost (fauA l p) w):=by
 unfold PrV
 have hb0:=heap1 w (.cells #[.slice A n c,.slice O n co,.map (some bd),.map (some bp)] 83)
 have hX:=Bx.new w 83 [.slice A n c,.slice O n co,.map (some bd),.map (some bp)]
 obtain⟨W0,hW0⟩:∃W0,w.alloc (.cells #[.slice A n c,.slice O n co,.map (some bd),.map (some bp)] 83)=W0:=⟨_,rfl⟩
 rw[hW0]at hb0 hX
 have HB0:=Lib.hid hb0
 have HX:=Lib.hid hX
 have b0:=(hX.cell 0).trans rfl
 have b1:=(hX.cell 1).trans rfl
 have b2:=(hX.cell 2).trans rfl
 have b3:=(hX.cell 3).trans rfl
 clear hX
 have HTK:=Lib.hid (fun W (hb:Below W0.heap.size W0 W)=>isTaken_any (h.below (bt hb0 hb)) c co p hp)
 have HUK:=Lib.hid (fun W (hb:Below W0.heap.size W0 W)=>isUnknown_any (h.below (bt hb0 hb)) c co p hp hF)
 have HMT:=Lib.hid (fun W (hb:Below W0.heap.size W0 W) (hu:unkB l p=false)=>isMistyped_any (h.below (bt hb0 hb)) (hcp.below h.nds (bt hb0 hb)) c co p hp hF hu)
 unfold PrV at HTK HUK HMT
 unfold fauA
 clear h hcp hF hp hb0
 cases ht:takB l p with
 |true=>
  have HC1:=Lib.hid (HTK.out _ (Below.refl _ _))
  rw[ht]at HC1
  rw[if_pos rfl]
  clear HTK HUK HMT ht
  go_enter Tryz.func82,Tryz.ntmps82
  try rw[hW0]
  go_wp2_with (go_at_call 142;refine HC1.out.mono ?_)
  rintro e w1 ⟨rfl,hq1⟩
  have hb1:=hq1
  have HB1:=Lib.hid hb1
  clear hb1 hq1
  go_wp2
  go_ret
  exact⟨rfl,bt HB0.out HB1.out⟩
 |false=>
  have HC1:=Lib.hid (HTK.out _ (Below.refl _ _))
  rw[ht]at HC1
  rw[if_neg (by decide)]
  clear HTK ht
  cases hu:unkB l p with
  |true=>
   rw[if_pos rfl]
   clear HMT
   go_enter Tryz.func82,Tryz.ntmps82
   go_wp2_with (go_at_call 142;refine HC1.out.mono ?_)
   rintro e w1 ⟨rfl,hq1⟩
   have hb1:=hq1
   have HB1:=Lib.hid hb1
   have hBa:=HX.out.below hb1 HX.out.lt
   have c0:=(hBa.cell 0).trans rfl
   have c1:=(hBa.cell 1).trans rfl
   have c2:=(hBa.cell 2).trans rfl
   have c3:=(hBa.cell 3).trans rfl
   clear hBa
   have HC2:=Lib.hid (HUK.out _ hb1)
   rw[hu]at HC2
   clear hb1 hq1 hu HUK
   go_wp2_with (go_at_call 143;refine HC2.out.mono ?_)
   rintro e w2 ⟨rfl,hq2⟩
   have hb2:=bt HB1.out hq2
   have HB2:=Lib.hid hb2
   clear hb2 hq2
   go_wp2
   go_ret
   exact⟨rfl,bt HB0.out HB2.out⟩
  |false=>
   rw[if_neg (by decide)]
   cases hm:misB l p with
   |true=>
    rw[if_pos rfl]
    go_enter Tryz.func82,Tryz.ntmps82
    go_wp2_with (go_at_call 142;refine HC1.out.mono ?_)
    rintro e w1 ⟨rfl,hq1⟩
    have hb1:=hq1
    have HB1:=Lib.hid hb1
    have hBa:=HX.out.below hb1 HX.out.lt
    have c0:=(hBa.cell 0).trans rfl
    have c1:=(hBa.cell 1).trans rfl
    have c2:=(hBa.cell 2).trans rfl
    have c3:=(hBa.cell 3).trans rfl
    clear hBa
    have HC2:=Lib.hid (HUK.out _ hb1)
    rw[hu]at HC2
    clear hb1 hq1
    go_wp2_with (go_at_call 143;refine HC2.out.mono ?_)
    rintro e w2 ⟨rfl,hq2⟩
    have hb2:=bt HB1.out hq2
    have HB2:=Lib.hid hb2
    have hBa:=HX.out.below hb2 HX.out.lt
    have d0:=(hBa.cell 0).trans rfl
    have d1:=(hBa.cell 1).trans rfl
    have d2:=(hBa.cell 2).trans rfl
    have d3:=(hBa.cell 3).trans rfl
    clear hBa
    have HC3:=Lib.hid (HMT.out _ hb2 hu)
    rw[hm]at HC3
    clear hb2 hq2 hm hu HUK HMT c0 c1 c2 c3
    go_wp2_with (go_at_call 144;refine HC3.out.mono ?_)
    rintro e w3 ⟨rfl,hq3⟩
    have hb3:=bt HB2.out hq3
    have HB3:=Lib.hid hb3
    clear hb3 hq3
    go_wp2
    go_ret
    exact⟨rfl,bt HB0.out HB3.out⟩
   |false=>
    rw[if_neg (by decide)]
    go_enter Tryz.func82,Tryz.ntmps82
    go_wp2_with (go_at_call 142;refine HC1.out.mono ?_)
    rintro e w1 ⟨rfl,hq1⟩
    have hb1:=hq1
    have HB1:=Lib.hid hb1
    have hBa:=HX.out.below hb1 HX.out.lt
    have c0:=(hBa.cell 0).trans rfl
    have c1:=(hBa.cell 1).trans rfl
    have c2:=(hBa.cell 2).trans rfl
    have c3:=(hBa.cell 3).trans rfl
    clear hBa
    have HC2:=Lib.hid (HUK.out _ hb1)
    rw[hu]at HC2
    clear hb1 hq1
    go_wp2_with (go_at_call 143;refine HC2.out.mono ?_)
    rintro e w2 ⟨rfl,hq2⟩
    have hb2:=bt HB1.out hq2
    have HB2:=Lib.hid hb2
    have hBa:=HX.out.below hb2 HX.out.lt
    have d0:=(hBa.cell 0).trans rfl
    have d1:=(hBa.cell 1).trans rfl
    have d2:=(hBa.cell 2).trans rfl
    have d3:=(hBa.cell 3).trans rfl
    clear hBa
    have HC3:=Lib.hid (HMT.out _ hb2 hu)
    rw[hm]at HC3
    clear hb2 hq2 hm hu HUK HMT c0 c1 c2 c3
    go_wp2_with (go_at_call 144;refine HC3.out.mono ?_)
    rintro e w3 ⟨rfl,hq3⟩
    have hb3:=bt HB2.out hq3
    have HB3:=Lib.hid hb3
    clear hb3 hq3
    go_wp2
    go_ret
    exact⟨rfl,bt HB0.out HB3.out⟩
end
structure TT (w:World) (A:Option Addr) (n:Nat) (l:List Tr.Nd):Prop where
 nds:Nds w A l
 len:n=l.length
 kids:∀x ∈ l,x.ks.length≤4000
 text:∀x ∈ l,x.tx.size≤281474976710656
 num:∀x ∈ l,x.n≤9223372036854775807
 caps:Caps w A l
theorem TT.below {w w':World}{A:Option Addr}{n:Nat}{l:List Tr.Nd}(h:TT w A n l)(hb:Below w.heap.size w w'):TT w' A n l:=
 ⟨h.nds.below hb,h.len,h.kids,h.text,h.num,h.caps.below h.nds hb⟩
theorem TT.right {w:World}{A:Option Addr}{n:Nat}{l:List Tr.Nd}(h:TT w A n l)(c:Nat)(r:Int):Calls Tryz.prog 27 #[.agg #[.slice A n c,.int .i64 r]] w (BPost (rgB l r) w):=Tr.right_any A c n l r w h.nds h.len h.kids h.text h.num
def RPost (L:List Tr.Nd)(w:World)(e:Ending)(w':World):Prop:=
 ∃A n c O co bd bp,e = .returned (PrV A n c O co bd bp)∧Prg w' L A n O bd bp∧Caps w' A L∧Below w.heap.size w w'
theorem read_any {w:World}{A:Option Addr}{n:Nat}{l:List Tr.Nd}(h:TT w A n l)(c:Nat)(r:Int):Calls Tryz.prog 80 #[.agg #[.slice A n c,.int .i64 r]] w (RPost (eff l r) w):=by
 have HR:∀w',Below w.heap.size w w'→Calls Tryz.prog 27 #[.agg #[.slice A n c,.int .i64 r]] w' (BPost (rgB l r) w'):=fun w' hb=>(h.below hb).right c r
 cases hr:rgB l r with
 |true=>
  rw[hr]at HR
  rw[eff_yes hr]
  obtain⟨⟨b,hb⟩,h4,_⟩:=rtn_of hr
  have h1:=hb.len
  have hl:=h.len
  refine callsIn_wide.1 (read_go A c n r l w h.nds h.len (by omega) (by omega) h.text HR _ (Lib.hid ?_))
  rintro e w' ⟨n',c',O,co,bd,bp,rfl,hn,hbw,hO,hd,hp⟩
  obtain rfl:n'=n:=by omega
  exact⟨A,n',c',O,co,bd,bp,rfl,⟨h.nds.below hbw,h.len,by omega,hO,hd,hp,h.kids,h.text,snd_ahead (rg_parts hr).1⟩,h.caps.below h.nds hbw,hbw⟩
 |false=>
  rw[hr]at HR
  rw[eff_no hr]
  refine callsIn_wide.1 (read_no A c n r w HR _ (Lib.hid ?_))
  rintro e w' ⟨n',c',O,co,bd,bp,rfl,hn,hbw,hO,hd,hp⟩
  exact⟨none,n',c',O,co,bd,bp,rfl,⟨fun h0=>absurd h0 (Nat.lt_irrefl 0),hn,by rw[hn];exact Nat.zero_le _,hO,hd,hp,fun x hx=>(by cases hx),fun x hx=>(by cases hx),fun p hp=>absurd hp (Nat.not_lt_zero _)⟩,fun p bA off K m c hp=>absurd hp (Nat.not_lt_zero _),hbw⟩
end
section
set_option maxHeartbeats 8000000
set_option maxRecDepth 100000
open Go Go.RowKit
open Tr (Bx heap1 bt Nds Ints VPost BPost rgB)
section
variable {w:World} {l:List Tr.Nd} {A:Option Addr} {n:Nat}
theorem check_any (h:TT w A n l)(c:Nat)(r:Int):Calls Tryz.prog 36 #[.agg #[.slice A n c,.int .i64 r]] w (VPost (.tuple #[.int .i64 (chkT l r).1,.int .i64 (chkT l r).2]) w):=by
 have hb0:=heap1 w (.cells #[.slice A n c,.int .i64 r] 25)
 have HB0:=Lib.hid hb0
 have HR:=Lib.hid (read_any (h.below hb0) c r)
 have HT:=Lib.hid (Bx.new w 25 [.slice A n c,.int .i64 r])
 unfold chkT
 cases hr:rgB l r with
 |false=>
  rw[eff_no hr]at HR
  rw[if_neg (by decide)]
  clear h hb0 hr
  go_enter Tryz.func36,Tryz.ntmps36
  go_wp2_with (go_at_call 80;refine HR.out.mono ?_)
  rintro e w1 ⟨A1,n1,c1,O,co,bd,bp,rfl,hP,_,hb1⟩
  unfold PrV
  obtain rfl:n1=0:=hP.len
  have hN:=isNothing_any (w1.alloc (.cells #[.slice A1 0 c1,.slice O 0 co,.map (some bd),.map (some bp)] 83)) A1 O 0 bd bp c1 co
  unfold PrV at hN
  have HN:=Lib.hid hN
  have HB1:=Lib.hid (bt (bt HB0.out hb1) (heap1 w1 (.cells #[.slice A1 0 c1,.slice O 0 co,.map (some bd),.map (some bp)] 83)))
  clear hP hb1 hN
  go_wp2_with (go_at_call 81;refine HN.out.mono ?_)
  rintro e w2 ⟨rfl,hb2⟩
  have HB2:=Lib.hid (bt HB1.out hb2)
  clear hb2
  go_wp2
  exact bodyPost_ret (v :=.tuple #[.int .i64 0,.int .i64 1]) (by simp[results,Tryz.f36,go_sem]) rfl ⟨rfl,HB2.out⟩
 |true=>
  rw[eff_yes hr]at HR
  rw[if_pos rfl]
  obtain⟨⟨b,hRt⟩,hx4,hx5⟩:=rtn_of hr
  have HX4:=Lib.hid hx4
  clear hx4 hx5
  have HRT:=Lib.hid hRt
  clear h hb0 hr hRt
  go_enter Tryz.func36,Tryz.ntmps36
  go_wp2_with (go_at_call 80;refine HR.out.mono ?_)
  rintro e w1 ⟨A1,n1,c1,O,co,bd,bp,rfl,hP,hC,hb1⟩
  unfold PrV
  have hbx:=heap1 w1 (.cells #[.slice A1 n1 c1,.slice O n1 co,.map (some bd),.map (some bp)] 83)
  have hN:=isNothing_any (w1.alloc (.cells #[.slice A1 n1 c1,.slice O n1 co,.map (some bd),.map (some bp)] 83)) A1 O n1 bd bp c1 co
  have hX:=Bx.new w1 83 [.slice A1 n1 c1,.slice O n1 co,.map (some bd),.map (some bp)]
  have hT:=(HT.out.below hb1 HT.out.lt).alloc (.cells #[.slice A1 n1 c1,.slice O n1 co,.map (some bd),.map (some bp)] 83)
  have HL:=Lib.hid hP.len
  have h0:decide (n1=0)=false:=decide_eq_false (by have:=HRT.out.len;have:=HL.out;omega)
  rw[h0]at hN
  unfold PrV at hN
  have HN:=Lib.hid hN
  have HB1:=Lib.hid (bt (bt HB0.out hb1) hbx)
  have HP:=Lib.hid (And.intro (hP.below hbx) (hC.below hP.nds hbx))
  have HX:=Lib.hid (And.intro hX hT)
  clear hP hC hb1 hN hX hT hbx h0 HR HT
  go_wp2_with (go_at_call 81;refine HN.out.mono ?_)
  rintro e w2 ⟨rfl,hb2⟩
  have HX2:=Lib.hid (And.intro (HX.out.1.below hb2 HX.out.1.lt) (HX.out.2.below hb2 HX.out.2.lt))
  have HP2:=Lib.hid (And.intro (HP.out.1.below hb2) (HP.out.2.below HP.out.1.nds hb2))
  have HB2:=Lib.hid (bt HB1.out hb2)
  have c0:=(HX2.out.1.cell 0).trans rfl
  clear hb2 HX HP HB1 HN
  go_wp2
  clear c0
  go_loopg [14] n1 (fun g a14 wr=>∃i:Nat,a14 = .int .i64 (i:Int)∧i≤n1∧g=n1-i∧(∀j,j<i→fauA l j=0)∧Below w2.heap.size w2 wr)
  case atStart=>exact⟨0,rfl,Nat.zero_le _,rfl,fun j hj=>absurd hj (Nat.not_lt_zero _),Below.refl _ _⟩
  case round=>
   obtain⟨i,rfl,hi,rfl,ht,hb⟩:=hrel
   have HB:=Lib.hid hb
   have HE:=Lib.hid ht
   have hn4:n1≤4000:=by have:=HL.out;have:=HX4.out;omega
   have hXr:=HX2.out.1.below hb HX2.out.1.lt
   have b0:=(hXr.cell 0).trans rfl
   have b1:=(hXr.cell 1).trans rfl
   have b2:=(hXr.cell 2).trans rfl
   have b3:=(hXr.cell 3).trans rfl
   by_cases hlt:i<n1
   ·have hlz:(i:Int)<(n1:Int):=by omega
    have hil:i<l.length:=by rw[← HL.out];exact hlt
    have hC:=fault_any (HP2.out.1.below hb) (HP2.out.2.below HP2.out.1.nds hb) c1 co i hlt (HRT.out.ndf hil)
    unfold PrV at hC
    have HC:=Lib.hid hC
    have HIL:=Lib.hid hil
    obtain⟨fz,hfz⟩:∃fz,fauA l i=fz:=⟨_,rfl⟩
    rw[hfz]at HC
    have HFZ:=Lib.hid hfz
    clear hXr hb ht hC hfz hil
    by_cases hz:fz=0
    ·subst hz
     go_wp2_with (go_at_call 82;refine HC.out.mono ?_)
     rintro e w3 ⟨rfl,hb3⟩
     have HB3:=Lib.hid (bt HB.out hb3)
     clear hb3
     go_wp2
     go_roundg (n1-(i+1))
     case measure=>go_light;omega
     case rel=>
      go_light
      exact⟨i+1,by go_num,by omega,rfl,fun j hj=>by rcases Nat.lt_or_eq_of_le (Nat.le_of_lt_succ hj)with e |e;exact HE.out j e;rw[e];exact HFZ.out,HB3.out⟩
    ·have hzn:(fz != 0)=true:=by simp[hz]
     have HRS:=Lib.hid (show chkA l r=((i:Int),fz) by
      unfold chkA
      rw[fstA_is (Nat.zero_le i) HIL.out (by simp[HFZ.out,hz]) (fun j _ hj=>by simp[HE.out j hj])]
      show((i:Int),fauA l i)=_
      rw[HFZ.out])
     clear hz
     go_wp2_with (go_at_call 82;refine HC.out.mono ?_)
     rintro e w3 ⟨rfl,hb3⟩
     have HB3:=Lib.hid (bt HB.out hb3)
     clear hb3
     go_wp2
     exact bodyPost_ret (v :=.tuple #[.int .i64 (i:Int),.int .i64 fz]) (by simp[results,Tryz.f36,go_sem]) rfl ⟨by rw[HRS.out];try rfl,bt HB2.out HB3.out⟩
   ·have hlz:¬(i:Int)<(n1:Int):=by omega
    have HN0:=Lib.hid (show fstA (fun p => !decide (fauA l p=0)) 0 l.length=none by
     cases e:fstA (fun p => !decide (fauA l p=0)) 0 l.length with
     |none=>rfl
     |some q=>
      obtain⟨_,h2,h3,_⟩:=fstA_some e
      have h4:=HE.out q (by have:=HL.out;omega)
      simp[h4]at h3)
    have hC:=hasMain_any (HP2.out.1.below hb) c1 co
    unfold PrV at hC
    have HC:=Lib.hid hC
    have hTr:=HX2.out.2.below hb HX2.out.2.lt
    have HTR:=Lib.hid hTr
    clear hXr hb ht hC hTr
    cases hm:manB l with
    |true=>
     rw[hm]at HC
     have HRS:=Lib.hid (show chkA l r=(0,0)by unfold chkA;rw[HN0.out];show(if manB l then _ else _)=_;rw[hm];rfl)
     clear hm
     go_wp2_with (go_at_call 83;refine HC.out.mono ?_)
     rintro e w3 ⟨rfl,hb3⟩
     have HB3:=Lib.hid (bt HB.out hb3)
     clear hb3
     go_wp2
     exact bodyPost_ret (v :=.tuple #[.int .i64 0,.int .i64 0]) (by simp[results,Tryz.f36,go_sem]) rfl ⟨by rw[HRS.out];try rfl,bt HB2.out HB3.out⟩
    |false=>
     rw[hm]at HC
     have HRS:=Lib.hid (show chkA l r=(r,11)by unfold chkA;rw[HN0.out];show(if manB l then _ else _)=_;rw[hm];rfl)
     clear hm
     go_wp2_with (go_at_call 83;refine HC.out.mono ?_)
     rintro e w3 ⟨rfl,hb3⟩
     have t1:=((HTR.out.below hb3 HTR.out.lt).cell 1).trans rfl
     have HB3:=Lib.hid (bt HB.out hb3)
     clear hb3
     go_wp2
     exact bodyPost_ret (v :=.tuple #[.int .i64 r,.int .i64 11]) (by simp[results,Tryz.f36,go_sem]) rfl ⟨by rw[HRS.out];try rfl,bt HB2.out HB3.out⟩
end
end
section
set_option maxHeartbeats 1500000
set_option maxRecDepth 100000
open Go Go.RowKit
open Tr (Bx heap1 bt Nds Ints VPost BPost rgB)
section
variable (l:List Tr.Nd) (r z:Int) (nm:ByteArray)
noncomputable def owT:Int:=if 0≤z∧z<((eff l r).length:Int) then owA (eff l r) z.toNat else -1
noncomputable def plT:Bool:=if 0≤z∧z<((eff l r).length:Int) then decide ((ndA (eff l r) z).kd=3)&&plnB (eff l r) z else false
end
section
variable {w:World} {l:List Tr.Nd} {A:Option Addr} {n:Nat}
theorem owner_any (h:TT w A n l)(c:Nat)(r z:Int):Calls Tryz.prog 38 #[.agg #[.slice A n c,.int .i64 r],.int .i64 z] w (Tr.IPost (owT l r z) w):=by
 have hb0:=heap1 w (.cells #[.slice A n c,.int .i64 r] 25)
 have HB0:=Lib.hid hb0
 have HR:=Lib.hid (read_any (h.below hb0) c r)
 obtain⟨ov,hov⟩:∃ov,owT l r z=ov:=⟨_,rfl⟩
 rw[hov]
 unfold owT at hov
 have HOV:=Lib.hid hov
 clear h hb0 hov
 generalize eff l r=L at *
 go_enter Tryz.func38,Tryz.ntmps38
 go_wp2_with (go_at_call 80;refine HR.out.mono ?_)
 rintro e w1 ⟨A1,n1,c1,O,co,bd,bp,rfl,hP,hC,hb1⟩
 unfold PrV
 have hbx:=heap1 w1 (.cells #[.slice A1 n1 c1,.slice O n1 co,.map (some bd),.map (some bp)] 83)
 have hh:=has_any (w1.alloc (.cells #[.slice A1 n1 c1,.slice O n1 co,.map (some bd),.map (some bp)] 83)) A1 O n1 bd bp c1 co z
 unfold PrV at hh
 have HX:=Lib.hid (Bx.new w1 83 [.slice A1 n1 c1,.slice O n1 co,.map (some bd),.map (some bp)])
 have HP:=Lib.hid (hP.below hbx)
 have HB1:=Lib.hid (bt (bt HB0.out hb1) hbx)
 have HL:=Lib.hid hP.len
 clear HR hP hC hb1 hbx
 by_cases hz:0≤z∧z<(L.length:Int)
 ·have hv:=HOV.out
  rw[if_pos hz]at hv
  clear HOV
  obtain⟨k,rfl⟩:∃k:Nat,z=(k:Int):=⟨z.toNat,by omega⟩
  replace hv:owA L k=ov:=hv
  subst hv
  have hk:k<n1:=by have:=HL.out;omega
  have hkz:(k:Int)<(n1:Int):=by omega
  rw[decide_eq_true hz.1,decide_eq_true hkz]at hh
  have HH:=Lib.hid (show Calls Tryz.prog 87 #[.agg #[.slice A1 n1 c1,.slice O n1 co,.map (some bd),.map (some bp)],.int .i64 (k:Int)] (w1.alloc (.cells #[.slice A1 n1 c1,.slice O n1 co,.map (some bd),.map (some bp)] 83)) (BPost true (w1.alloc (.cells #[.slice A1 n1 c1,.slice O n1 co,.map (some bd),.map (some bp)] 83)))from hh)
  clear hh hz
  go_wp2_with (go_at_call 87;refine HH.out.mono ?_)
  rintro e w2 ⟨rfl,hb2⟩
  have hX2:=HX.out.below hb2 HX.out.lt
  have q0:=(hX2.cell 0).trans rfl
  have q1:=(hX2.cell 1).trans rfl
  have q2:=(hX2.cell 2).trans rfl
  have q3:=(hX2.cell 3).trans rfl
  have HP2:=Lib.hid (HP.out.below hb2)
  have HX2:=Lib.hid hX2
  have HB2:=Lib.hid (bt HB1.out hb2)
  obtain⟨b,ob,rfl,hlt,hcell⟩:=HP.out.owner_at hb2 hk
  clear hb2 hX2
  generalize owA L k=ow at *
  go_wp2
  go_ret
  exact⟨rfl,HB2.out⟩
 ·have hv:=HOV.out
  rw[if_neg hz]at hv
  subst hv
  clear HOV
  have hf:(decide (0≤z)&&decide (z<(n1:Int)))=false:=by
   rw[HL.out,Bool.eq_false_iff]
   intro h2
   simp only[Bool.and_eq_true,decide_eq_true_eq]at h2
   exact hz h2
  rw[hf]at hh
  have HH:=Lib.hid hh
  clear hh hz hf
  go_wp2_with (go_at_call 87;refine HH.out.mono ?_)
  rintro e w2 ⟨rfl,hb2⟩
  have HB2:=Lib.hid (bt HB1.out hb2)
  clear hb2
  go_wp2
  go_ret
  exact⟨rfl,HB2.out⟩
theorem plain_any (h:TT w A n l)(c:Nat)(r z:Int):Calls Tryz.prog 44 #[.agg #[.slice A n c,.int .i64 r],.int .i64 z] w (BPost (plT l r z) w):=by
 have hb0:=heap1 w (.cells #[.slice A n c,.int .i64 r] 25)
 have HB0:=Lib.hid hb0
 have HR:=Lib.hid (read_any (h.below hb0) c r)
 obtain⟨ov,hov⟩:∃ov,plT l r z=ov:=⟨_,rfl⟩
 rw[hov]
 unfold plT at hov
 have HOV:=Lib.hid hov
 clear h hb0 hov
 generalize eff l r=L at *
 go_enter Tryz.func44,Tryz.ntmps44
 go_wp2_with (go_at_call 80;refine HR.out.mono ?_)
 rintro e w1 ⟨A1,n1,c1,O,co,bd,bp,rfl,hP,hC,hb1⟩
 unfold PrV
 have hbx:=heap1 w1 (.cells #[.slice A1 n1 c1,.slice O n1 co,.map (some bd),.map (some bp)] 83)
 have hh:=has_any (w1.alloc (.cells #[.slice A1 n1 c1,.slice O n1 co,.map (some bd),.map (some bp)] 83)) A1 O n1 bd bp c1 co z
 unfold PrV at hh
 have HX:=Lib.hid (Bx.new w1 83 [.slice A1 n1 c1,.slice O n1 co,.map (some bd),.map (some bp)])
 have HP:=Lib.hid (hP.below hbx)
 have HB1:=Lib.hid (bt (bt HB0.out hb1) hbx)
 have HL:=Lib.hid hP.len
 clear HR hP hC hb1 hbx
 by_cases hz:0≤z∧z<(L.length:Int)
 ·have hv:=HOV.out
  rw[if_pos hz]at hv
  clear HOV
  obtain⟨k,rfl⟩:∃k:Nat,z=(k:Int):=⟨z.toNat,by omega⟩
  replace hv:(decide ((ndA L (k:Int)).kd=3)&&plnB L (k:Int))=ov:=hv
  have HV:=Lib.hid hv
  clear hv
  have hk:k<n1:=by have:=HL.out;omega
  have hkz:(k:Int)<(n1:Int):=by omega
  rw[decide_eq_true hz.1,decide_eq_true hkz]at hh
  have HH:=Lib.hid (show Calls Tryz.prog 87 #[.agg #[.slice A1 n1 c1,.slice O n1 co,.map (some bd),.map (some bp)],.int .i64 (k:Int)] (w1.alloc (.cells #[.slice A1 n1 c1,.slice O n1 co,.map (some bd),.map (some bp)] 83)) (BPost true (w1.alloc (.cells #[.slice A1 n1 c1,.slice O n1 co,.map (some bd),.map (some bp)] 83)))from hh)
  clear hh hz
  go_wp2_with (go_at_call 87;refine HH.out.mono ?_)
  rintro e w2 ⟨rfl,hb2⟩
  have hX2:=HX.out.below hb2 HX.out.lt
  have q0:=(hX2.cell 0).trans rfl
  have q1:=(hX2.cell 1).trans rfl
  have q2:=(hX2.cell 2).trans rfl
  have q3:=(hX2.cell 3).trans rfl
  have HP2:=Lib.hid (HP.out.below hb2)
  have HX2:=Lib.hid hX2
  have HB2:=Lib.hid (bt HB1.out hb2)
  have hkl:k<L.length:=by rw[← HL.out];exact hk
  obtain⟨bA,off,K,cK,rfl,xt,x0,x1,x2,x3,x4,xI⟩:=node_at HP2.out.nds (Below.refl _ w2) k hkl
  rw[← ndA_eq hkl]at x0
  by_cases h3:(ndA L k).kd=3
  ·have hq:=isPlain_any HP2.out c1 co k hk
   unfold PrV at hq
   have HQ:=Lib.hid hq
   rw[h3]at x0
   have HW:=Lib.hid (show ov=plnB L (k:Int)by rw[← HV.out,h3,decide_eq_true rfl,Bool.true_and])
   generalize plnB L (k:Int)=pb at *
   clear hb2 hX2 hq x1 x2 x3 x4 xI h3 xt hkl
   go_wp2_with (go_at_call 92;refine HQ.out.mono ?_)
   rintro e w3 ⟨rfl,hb3⟩
   have HB3:=Lib.hid (bt HB2.out hb3)
   clear hb3
   go_wp2
   go_ret
   exact⟨by rw[HW.out];try rfl,HB3.out⟩
  ·have hk3:((ndA L k).kd==3)=false:=beq_eq_false_iff_ne.2 h3
   have HW:=Lib.hid (show ov=false by rw[← HV.out,decide_eq_false h3,Bool.false_and])
   generalize (ndA L (k:Int)).kd=kd at *
   clear hb2 hX2 x1 x2 x3 x4 xI h3 xt hkl
   go_wp2
   go_ret
   exact⟨by rw[HW.out];try rfl,HB2.out⟩
 ·have hv:=HOV.out
  rw[if_neg hz]at hv
  subst hv
  clear HOV
  have hf:(decide (0≤z)&&decide (z<(n1:Int)))=false:=by
   rw[HL.out,Bool.eq_false_iff]
   intro h2
   simp only[Bool.and_eq_true,decide_eq_true_eq]at h2
   exact hz h2
  rw[hf]at hh
  have HH:=Lib.hid hh
  clear hh hz hf
  go_wp2_with (go_at_call 87;refine HH.out.mono ?_)
  rintro e w2 ⟨rfl,hb2⟩
  have HB2:=Lib.hid (bt HB1.out hb2)
  clear hb2
  go_wp2
  go_ret
  exact⟨rfl,HB2.out⟩
end
end
section
set_option maxHeartbeats 1500000
set_option maxRecDepth 100000
open Go Go.RowKit
open Tr (Bx heap1 bt Nds Ints VPost BPost rgB)
def GT1 (w:World)(e:Ending)(w':World):Prop:=∃A c,e = .returned (.tuple #[.agg #[.slice A 6 c,.int .i64 5],.int .i64 0,.int .i64 0])∧Below w.heap.size w w'∧NdsB w.heap.size w' A (tn1.map cvN)
theorem ttn1 {B:Nat}{w:World}{A:Option Addr}(h:NdsB B w A (tn1.map cvN)):TT w A 6 (tn1.map cvN):=⟨h.nds,rfl,by decide +kernel,by decide +kernel,by decide +kernel,fun p bA off K m c hp hA hc _ h2=>by have:=h.room hp hA hc;omega⟩
def GT2 (w:World)(e:Ending)(w':World):Prop:=∃A c,e = .returned (.tuple #[.agg #[.slice A 3 c,.int .i64 2],.int .i64 0,.int .i64 0])∧Below w.heap.size w w'∧NdsB w.heap.size w' A (tn2.map cvN)
theorem ttn2 {B:Nat}{w:World}{A:Option Addr}(h:NdsB B w A (tn2.map cvN)):TT w A 3 (tn2.map cvN):=⟨h.nds,rfl,by decide +kernel,by decide +kernel,by decide +kernel,fun p bA off K m c hp hA hc _ h2=>by have:=h.room hp hA hc;omega⟩
def GT3 (w:World)(e:Ending)(w':World):Prop:=∃A c,e = .returned (.tuple #[.agg #[.slice A 5 c,.int .i64 4],.int .i64 0,.int .i64 0])∧Below w.heap.size w w'∧NdsB w.heap.size w' A (tn3.map cvN)
theorem ttn3 {B:Nat}{w:World}{A:Option Addr}(h:NdsB B w A (tn3.map cvN)):TT w A 5 (tn3.map cvN):=⟨h.nds,rfl,by decide +kernel,by decide +kernel,by decide +kernel,fun p bA off K m c hp hA hc _ h2=>by have:=h.room hp hA hc;omega⟩
theorem shown34_any (w:World)(hE:Tk.Errs w):Calls Tryz.prog 34 #[] w (VPost (.bool true) w):=by
 have H1:=Lib.hid (show Calls Tryz.prog 16 #[.string ⟨#[112,114,111,99,32,109,97,105,110,40,41,32,123,32,118,97,114,32,120,32,105,110,116,59,32,120,32,61,32,116,114,117,101,59,32,125]⟩] w (GT1 w) from(program_any _ w hE (by decide)).mono fun _ _ q=>tree_good q tans1.choose_spec)
 have H2:=Lib.hid (fun w' (q:Below w.heap.size w w')=>show Calls Tryz.prog 16 #[.string ⟨#[112,114,111,99,32,102,40,41,32,123,32,125]⟩] w' (GT2 w') from(program_any _ w' (hE.below q) (by decide)).mono fun _ _ q=>tree_good q tans2.choose_spec)
 have H3:=Lib.hid (fun w' (q:Below w.heap.size w w')=>show Calls Tryz.prog 16 #[.string ⟨#[112,114,111,99,32,109,97,105,110,40,41,32,123,32,121,32,61,32,49,59,32,125]⟩] w' (GT3 w') from(program_any _ w' (hE.below q) (by decide)).mono fun _ _ q=>tree_good q tans3.choose_spec)
 clear hE
 go_enter Tryz.func34,Tryz.ntmps34
 go_wp2_with (go_at_call 16;refine H1.out.mono ?_)
 rintro e w1 ⟨A1,c1,rfl,hb1,hN1⟩
 have HA1:=Lib.hid (bt hb1 (heap1 w1 (.cells #[.slice A1 6 c1,.int .i64 5] 25)))
 have HT1:=Lib.hid ((ttn1 hN1).below (heap1 w1 (.cells #[.slice A1 6 c1,.int .i64 5] 25)))
 have HX1:=Lib.hid (Bx.new w1 25 [.slice A1 6 c1,.int .i64 5])
 clear hb1 hN1 H1
 obtain⟨U1,hU1⟩:∃U1,w1.alloc (.cells #[.slice A1 6 c1,.int .i64 5] 25)=U1:=⟨_,rfl⟩
 rw[hU1]at HA1 HT1 HX1
 go_wp2_with (go_at_call 16;refine(H2.out _ HA1.out).mono ?_)
 rintro e w2 ⟨A2,c2,rfl,hb2,hN2⟩
 have hbx:=heap1 w2 (.cells #[.slice A2 3 c2,.int .i64 2] 25)
 have HA2:=Lib.hid (bt (bt HA1.out hb2) hbx)
 have HT2:=Lib.hid ((ttn2 hN2).below hbx)
 have HT12:=Lib.hid ((HT1.out.below hb2).below hbx)
 have HX2:=Lib.hid (Bx.new w2 25 [.slice A2 3 c2,.int .i64 2])
 have HX12:=Lib.hid ((HX1.out.below hb2 HX1.out.lt).below hbx (HX1.out.below hb2 HX1.out.lt).lt)
 clear hb2 hN2 H2 hbx HT1 HX1 hU1
 obtain⟨U2,hU2⟩:∃U2,w2.alloc (.cells #[.slice A2 3 c2,.int .i64 2] 25)=U2:=⟨_,rfl⟩
 rw[hU2]at HA2 HT2 HT12 HX2 HX12
 go_wp2_with (go_at_call 16;refine(H3.out _ HA2.out).mono ?_)
 rintro e w3 ⟨A3,c3,rfl,hb3,hN3⟩
 have hbx:=heap1 w3 (.cells #[.slice A3 5 c3,.int .i64 4] 25)
 have hb4:=bt hb3 hbx
 have HA3:=Lib.hid (bt (bt HA2.out hb3) hbx)
 have HT3:=Lib.hid ((ttn3 hN3).below hbx)
 have HT13:=Lib.hid (HT12.out.below hb4)
 have HT23:=Lib.hid (HT2.out.below hb4)
 have HX3:=Lib.hid (Bx.new w3 25 [.slice A3 5 c3,.int .i64 4])
 have HX13:=Lib.hid (HX12.out.below hb4 HX12.out.lt)
 have HX23:=Lib.hid (HX2.out.below hb4 HX2.out.lt)
 clear hb3 hN3 H3 hbx hb4 HT2 HT12 HX2 HX12 hU2
 obtain⟨U3,hU3⟩:∃U3,w3.alloc (.cells #[.slice A3 5 c3,.int .i64 4] 25)=U3:=⟨_,rfl⟩
 rw[hU3]at HA3 HT3 HT13 HT23 HX3 HX13 HX23
 have q1:∀W,Below U3.heap.size U3 W→Calls Tryz.prog 36 #[.agg #[.slice A1 6 c1,.int .i64 5]] W (VPost (.tuple #[.int .i64 2,.int .i64 5]) W):=fun W hb=>by have t:=check_any (HT13.out.below hb) c1 5;rw[tchk1]at t;exact t
 have q2:∀W,Below U3.heap.size U3 W→Calls Tryz.prog 36 #[.agg #[.slice A2 3 c2,.int .i64 2]] W (VPost (.tuple #[.int .i64 2,.int .i64 11]) W):=fun W hb=>by have t:=check_any (HT23.out.below hb) c2 2;rw[tchk2]at t;exact t
 have q3:∀W,Below U3.heap.size U3 W→Calls Tryz.prog 36 #[.agg #[.slice A3 5 c3,.int .i64 4]] W (VPost (.tuple #[.int .i64 1,.int .i64 3]) W):=fun W hb=>by have t:=check_any (HT3.out.below hb) c3 4;rw[tchk3]at t;exact t
 have Q1:=Lib.hid q1
 have Q2:=Lib.hid q2
 have Q3:=Lib.hid q3
 have a0:=(HX13.out.cell 0).trans rfl
 have a1:=(HX13.out.cell 1).trans rfl
 clear q1 q2 q3
 go_wp2_with (go_at_call 36;refine(Q1.out _ (Below.refl _ _)).mono ?_)
 rintro e w4 ⟨rfl,hb4⟩
 have HB4:=Lib.hid hb4
 have b0:=((HX23.out.below hb4 HX23.out.lt).cell 0).trans rfl
 have b1:=((HX23.out.below hb4 HX23.out.lt).cell 1).trans rfl
 clear hb4 a0 a1
 go_wp2_with (go_at_call 36;refine(Q2.out _ HB4.out).mono ?_)
 rintro e w5 ⟨rfl,hb5⟩
 have HB5:=Lib.hid (bt HB4.out hb5)
 have d0:=((HX3.out.below HB5.out HX3.out.lt).cell 0).trans rfl
 have d1:=((HX3.out.below HB5.out HX3.out.lt).cell 1).trans rfl
 clear hb5 b0 b1
 go_wp2_with (go_at_call 36;refine(Q3.out _ HB5.out).mono ?_)
 rintro e w6 ⟨rfl,hb6⟩
 have hb:=bt HB5.out hb6
 have HB:=Lib.hid (bt HA3.out hb)
 have e0:=((HX13.out.below hb HX13.out.lt).cell 0).trans rfl
 have f1:=((HX23.out.below hb HX23.out.lt).cell 1).trans rfl
 have g0:=((HX3.out.below hb HX3.out.lt).cell 0).trans rfl
 obtain⟨bA,off,K,cK,rfl,xt,x0,_⟩:=node_at (HT13.out.below hb).nds (Below.refl _ w6) 2 (by decide)
 obtain⟨bB,offB,K2,cK2,rfl,yt,y0,_⟩:=node_at (HT3.out.below hb).nds (Below.refl _ w6) 1 (by decide)
 replace x0:w6.cell? ⟨bA,off+2*5,none⟩=some (.int .i64 7):=x0
 replace y0:w6.cell? ⟨bB,offB+5,none⟩=some (.int .i64 7):=by have:=y0;simp only[Nat.one_mul]at this;exact this
 clear hb hb6 d0 d1
 go_wp2
 go_ret
 exact⟨rfl,HB.out⟩
end
section
set_option maxHeartbeats 1500000
set_option maxRecDepth 100000
open Go Go.RowKit
open Tr (Bx heap1 bt Nds Ints VPost BPost rgB)
def OkT7 (l:List Tr.Nd):Prop:=l.length≤400∧∀x ∈ l,x.ks.length≤400∧x.tx.size≤200
def SmPost7 (l:List Tr.Nd)(w:World)(e:Ending)(w':World):Prop:=Below w.heap.size w w'∧∃b,e = .returned (.bool b)∧(b=true→OkT7 l)
theorem small35t_any (A:Option Addr)(n c:Nat)(l:List Tr.Nd)(r:Int)(w:World)(hN:Nds w A l)(hn:n=l.length):Calls Tryz.prog 35 #[.agg #[.slice A n c,.int .i64 r]] w (SmPost7 l w):=by
 have hb0:=heap1 w (.cells #[.slice A n c,.int .i64 r] 25)
 have HNN:=Lib.hid (hN.below hb0)
 have HB:=Lib.hid hb0
 have HN:=Lib.hid hn
 clear hN hn hb0
 by_cases h4:(400:Int)<(n:Int)
 ·have hd4:decide ((400:Int)<(n:Int))=true:=decide_eq_true h4
  go_enter Tryz.func35,Tryz.ntmps35
  go_wp2
  go_ret
  exact⟨HB.out,false,rfl,fun h=>by cases h⟩
 ·have hd4:decide ((400:Int)<(n:Int))=false:=decide_eq_false h4
  go_enter Tryz.func35,Tryz.ntmps35
  go_wp2
  go_loop [3] (fun i=>∃k:Nat,k≤n∧i = .int .i64 (k:Int)∧∀x ∈ l.take k,x.ks.length≤400∧x.tx.size≤200) (fun i=>n-(intOf i).toNat)
  case atStart=>exact⟨0,Nat.zero_le _,rfl,fun t ht=>by simp at ht⟩
  case round=>
   obtain⟨k,hk,rfl,hok2⟩:=hrel
   have HOK2:=Lib.hid hok2
   clear hok2
   by_cases hkl:k<n
   ·have hkz:(k:Int)<(n:Int):=by omega
    have hkt:k<l.length:=by rw[← HN.out];exact hkl
    obtain⟨bN,oN,rfl,hbN,hcN⟩:=HNN.out (by omega)
    obtain⟨K2,c2,_,_,_,c3,c4,_⟩:=hcN k hkt
    have HXX:=Lib.hid (show l.take (k+1)=l.take k++[l[k]]from List.take_succ_eq_append_getElem hkt)
    clear hcN
    generalize l[k]=x at *
    obtain⟨kd,nn,pl,tx,ks⟩:=x
    dsimp only at c3 c4
    generalize hq:ks.length=q at *
    have HQ:=Lib.hid hq
    clear hq
    by_cases h1:(400:Int)<(q:Int)
    ·have hd1:decide ((400:Int)<(q:Int))=true:=decide_eq_true h1
     go_wp2
     go_ret
     exact⟨HB.out,false,rfl,fun h=>by cases h⟩
    ·have hd1:decide ((400:Int)<(q:Int))=false:=decide_eq_false h1
     by_cases h2:(200:Int)<(tx.size:Int)
     ·have hd2:decide ((200:Int)<(tx.size:Int))=true:=decide_eq_true h2
      go_wp2
      go_ret
      exact⟨HB.out,false,rfl,fun h=>by cases h⟩
     ·have hd2:decide ((200:Int)<(tx.size:Int))=false:=decide_eq_false h2
      go_wp2
      go_round
      case rel=>
       refine⟨k+1,by omega,by go_num,?_⟩
       rw[HXX.out]
       intro x hx
       rcases List.mem_append.1 hx with hx |hx
       ·exact HOK2.out x hx
       ·simp at hx;subst hx;exact⟨by show ks.length≤400;rw[HQ.out];omega,by show tx.size≤200;omega⟩
      case measure=>simp[intOf];omega
   ·obtain rfl:k=n:=by omega
    have hkz:¬(k:Int)<(k:Int):=by omega
    go_wp2
    go_ret
    refine⟨HB.out,true,rfl,fun _=>⟨by rw[← HN.out];omega,?_⟩⟩
    have h5:=HOK2.out
    rw[List.take_of_length_le (by rw[← HN.out];omega)]at h5
    exact h5
end
end Go.Proofs.YteecfjhjllajlaaGreatDoor
