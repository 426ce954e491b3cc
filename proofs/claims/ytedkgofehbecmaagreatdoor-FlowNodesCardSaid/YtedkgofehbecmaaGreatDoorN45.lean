/- PROVED here: parts Ha of the claim. No condition but those in each theorem's own head. -/
import Derived.Test.YtedkgofehbecmaaGreatDoorN43
import Derived.Test.YtedkgofehbecmaaGreatDoorN44
import Derived.Test.YtedkgofehbecmaaGreatDoorN39
import Derived.Deep.RegionHeld3
import Derived.Deep.DeepCutAuto
import Derived.Deep.CutBlock
namespace Go.Proofs.YtedkgofehbecmaaGreatDoor
open Go Go.RowKit
open Tr (Bx heap1 bt Nds Ints BPost rgB)
structure NodeOk (l:List Tr.Nd) (R:Nat→Bool) (t:List (Nat × Nat)) (q p:Nat) (x:Gn):Prop where
 hp:p<t.length
 pl:x.pl=(q:Int)
 pr:x.pr=(p:Int)
 ow:((t[p]'hp).2:Int)=owA l q
 rs:decide (0≤x.rs)=R q
 len:x.nx.length=wl (Tr.nth l q).kd
theorem node_ok {l:List Tr.Nd}{b:Nat→Nat}{R:Nat→Bool}{t:List (Nat × Nat)}{s:BdS}(h:RtN l b)(hs:IsG l b R t (l.length-1) s){q:Nat}(hq:q<l.length)(hst:stmB (Tr.nth l q).kd=true):∃(i:Nat) (hi:i<s.G.length) (p:Nat),ixF (fun x:Gn=>x.kd==4&&x.pl==(q:Int)) s.G 0=(i:Int)∧NodeOk l R t q p s.G[i]:=by
 have hq1:q<l.length-1:=by
  have:q≠l.length-1:=fun e=>by
   have hr:(Tr.nth l (l.length-1)).kd=1:=h.root
   rw[e,hr]at hst;exact absurd hst (by decide)
  omega
 obtain⟨i,hi,p,hp,e1,e2,e3,e4⟩:=hs.of hq1 hst
 obtain⟨o1,o2,o3⟩:=hs.ok _ (List.getElem_mem hp)
 refine⟨i,hi,p,e1,⟨hp,e4.bs.pl,e4.bs.pr,?_,?_,e4.len⟩⟩
 ·have hk3:(ndA l ((t[p]'hp).2:Int)).kd=3:=by unfold ndA;rw[Int.toNat_natCast];exact o2
  exact(owA_at o1 hk3 _ q rfl (by omega) fun j h1 h2=>proc_down h.st h.sh _ o1 (by omega) j (by omega) h2).symm
 ·cases hR:R q with
  |true=>
   obtain⟨j,hj,_⟩:=e4.up hR
   rw[hj];exact decide_eq_true (by omega)
  |false=>rw[e4.bs.rs hR];rfl
theorem own32:Fl.Own 32:=⟨_,Tryz.func32,by kernel_rfl,by kernel_rfl⟩
theorem GR.node {w:World}{gb M:Nat}{X:Nat→Prop}{G:List Gn}(h:GR w gb M X G){i:Nat}(hi:i<G.length):∃K c,w.cell? ⟨gb,i*5,none⟩=some (.int .i64 G[i].kd)∧w.cell? ⟨gb,i*5+1,none⟩=some (.int .i64 G[i].pl)∧w.cell? ⟨gb,i*5+2,none⟩=some (.int .i64 G[i].pr)∧w.cell? ⟨gb,i*5+3,none⟩=some (.slice K G[i].nx.length c)∧w.cell? ⟨gb,i*5+4,none⟩=some (.int .i64 G[i].rs)∧Kd w X K G[i].nx:=by
 obtain⟨cs,hb,_,hc⟩:=h
 obtain⟨c0,c1,c2,c4,K,c,c3,hk⟩:=hc i hi
 exact⟨K,c,(hb.cell _).trans c0,(hb.cell _).trans c1,(hb.cell _).trans c2,(hb.cell _).trans c3,(hb.cell _).trans c4,hk⟩
set_option maxRecDepth 100000 in
set_option maxHeartbeats 8000000 in
theorem flowNodes_any (A:Option Addr)(c n:Nat)(l:List Tr.Nd)(r:Int)(w:World)(hn:n=l.length)(hE:Tk.Errs w)(hN:Nds w A l)(hnum:∀x ∈ l,x.n≤9223372036854775807)(hc:Caps w A l):Calls Tryz.prog 6 #[.agg #[.slice A n c,.int .i64 r]] w (VPost (.bool true) w):=by
 have hb0:=heap1 w (.cells #[.slice A n c,.int .i64 r] 24)
 have HX:=Lib.hid (Bx.new w 24 [.slice A n c,.int .i64 r])
 have HB0:=Lib.hid hb0
 have HS:=Lib.hid (shown14_any _ (hE.below hb0))
 have HSM:=Lib.hid (show∀w',Below w.heap.size w w'→Calls Tryz.prog 15 #[.agg #[.slice A n c,.int .i64 r]] w' (SmPost8 l w')from fun w' q=>small15_any A n c l r w' (hN.below q) hn)
 have HTT:=Lib.hid (show OkT8 l→∀w',Below w.heap.size w w'→TT w' A n l from fun h w' q=>(TT.mk hN hn (fun x hx=>by have:=(h.2 x hx).1;omega) (fun x hx=>by have:=(h.2 x hx).2;omega) hnum hc).below q)
 have HL:=Lib.hid hn
 clear hE hN hnum hc hb0 hn
 obtain⟨W0,hW0⟩:∃W0,w.alloc (.cells #[.slice A n c,.int .i64 r] 24)=W0:=⟨_,rfl⟩
 rw[hW0]at HX HB0 HS
 go_enter Tryz.func6,Tryz.ntmps6
 go_wp2_with (go_at_call 14;refine HS.out.mono ?_)
 rintro e w1 ⟨rfl,hb1⟩
 have HX1:=Lib.hid (HX.out.below hb1 HX.out.lt)
 have HB1:=Lib.hid (bt HB0.out hb1)
 have a0:=(HX1.out.cell 0).trans rfl
 have a1:=(HX1.out.cell 1).trans rfl
 clear hb1 hW0 HS HX HB0
 go_wp2_with (go_at_call 15;refine(HSM.out _ HB1.out).mono ?_)
 rintro e w2 ⟨hb2,bo,rfl,hok⟩
 have HB2:=Lib.hid (bt HB1.out hb2)
 cases bo with
 |false=>
  clear hb2 hok a0 a1
  go_wp2
  go_ret
  exact⟨rfl,HB2.out⟩
 |true=>
  have HOK:=Lib.hid (hok rfl)
  have HX2:=Lib.hid (HX1.out.below hb2 HX1.out.lt)
  clear hb2 hok a0 a1
  have a0:=(HX2.out.cell 0).trans rfl
  have a1:=(HX2.out.cell 1).trans rfl
  cases hr:okT l r with
  |false=>
   have HBN:=Lib.hid (build_no (HTT.out HOK.out _ HB2.out) c r hr)
   clear hr
   go_wp2_with (go_at_call 16;refine HBN.out.mono ?_)
   rintro e w3 ⟨rfl,hb3⟩
   have HE:=Lib.hid (bt (bt HB2.out hb3) (heap1 w3 (.cells #[.slice none 0 0,.slice none 0 0] 30)))
   clear hb3 a0 a1
   go_wp2
   go_ret
   exact⟨rfl,HE.out⟩
  |true=>
   have HBN:=Lib.hid (build_yes (HTT.out HOK.out _ HB2.out) c r hr)
   have HR:=Lib.hid hr
   obtain⟨⟨b,hRt⟩,hl4,hrr⟩:=rtn_of (ok_rg hr)
   obtain⟨R,hRs⟩:∃R,rsF l r n=R:=⟨_,rfl⟩
   rw[hRs]at HBN
   obtain⟨t,hIs⟩:=gr_is hRt R
   have hcnt:=hIs.count hRt
   have hroot:(Tr.nth l (l.length-1)).kd=1:=hRt.root
   obtain⟨s,hs⟩:∃s,grG l R=s:=⟨_,rfl⟩
   rw[hs]at HBN hIs hcnt
   have HIS:=Lib.hid hIs
   have HRT:=Lib.hid hRt
   have HRS:=Lib.hid hRs
   have HCN:=Lib.hid hcnt
   have HPS:=Lib.hid hIs.P
   have HPL:=Lib.hid (show s.P.length=t.length by rw[hIs.P,List.length_map])
   have hpos:0<s.G.length:=by
    have h1:=hIs.pos hRt (r:=r) (by have:=hr;unfold okT chkT at this;rw[ok_rg hr]at this;simpa using this)
    have:=hIs.big.1
    omega
   have hbig:s.G.length≤20000:=by have:=hIs.big.2;omega
   have HBIG:=Lib.hid hbig
   clear hr hRs hIs hs hcnt hrr hroot hRt hbig
   go_wp2_with (go_at_call 16;refine HBN.out.mono ?_)
   rintro e w3 ⟨v,rfl,V,U,base,rfl,hb3,hbase,hGn,hOw⟩
   obtain⟨VA,vc,hV⟩:=hGn.slice
   obtain⟨UA,uc,hU⟩:=own_slice hOw
   subst hV
   subst hU
   obtain⟨NG,hNG⟩:∃NG,s.G.length=NG:=⟨_,rfl⟩
   obtain⟨NP,hNP⟩:∃NP,s.P.length=NP:=⟨_,rfl⟩
   rw[hNG,hNP]
   have hbx:=heap1 w3 (.cells #[.slice VA NG vc,.slice UA NP uc] 30)
   have HX3:=Lib.hid (HX2.out.below (bt hb3 hbx) HX2.out.lt)
   have HG3:=Lib.hid (Bx.new w3 30 [.slice VA NG vc,.slice UA NP uc])
   have HB3:=Lib.hid (bt (bt HB2.out hb3) hbx)
   have HGn:=Lib.hid (hGn.move (E:=fun _=>False) (X':=fun _=>False) (Fr.of hbx) (fun _ _=>id) (fun _ _ _ _ _=>⟨id,id⟩))
   have HIN:=Lib.hid ((own_intsP hOw).below hbx)
   have HNG:=Lib.hid (And.intro hNG hNP)
   obtain⟨z3,hz3⟩:∃z3,w3.heap.size=z3:=⟨_,rfl⟩
   obtain⟨W3,hW3⟩:∃W3,w3.alloc (.cells #[.slice VA NG vc,.slice UA NP uc] 30)=W3:=⟨_,rfl⟩
   rw[hW3]at HX3 HG3 HB3 HGn HIN
   rw[hz3]at HG3
   clear hb3 hbase hGn hOw hbx hNG hNP a0 a1 HBN HX1 HX2 HB1 HB2
   obtain⟨gb,cap,hVA,hgb,hcp,hcm,hGR⟩:=HGn.out.gr hpos
   have hVA2:VA=some ⟨gb,0,none⟩:=by injection hVA
   have hvc:vc=cap:=by injection hVA
   subst hVA2
   subst hvc
   have HGR:=Lib.hid hGR
   clear hVA hgb hcp hcm hGR hpos
   have hn4:n≤4000:=by rw[HL.out];exact hl4
   go_upto_region 8 with(fail)
   go_wp2
   go_loopg [8,7] n (fun k v8 v7 wr=>∃i:Nat,i+k=n∧v8 = .int .i64 (i:Int)∧v7 = .int .i64 (((stsL l 0 i).length:Nat):Int)∧Below W3.heap.size W3 wr)
   case atStart=>exact⟨0,Nat.zero_add _,rfl,by rw[stsL_same];rfl,Below.refl _ _⟩
   case round=>
    obtain⟨i,hi,rfl,hv7,hb⟩:=hrel
    obtain⟨mi,hmi⟩:∃mi,(stsL l 0 i).length=mi:=⟨_,rfl⟩
    rw[hmi]at hv7
    subst hv7
    have HMI:=Lib.hid hmi
    obtain⟨W4,rfl⟩:∃W4,W4=wr:=⟨_,rfl⟩
    have HB4:=Lib.hid hb
    have HGK:=Lib.hid hi
    have hx4:=HX3.out.below hb HX3.out.lt
    have hg4:=HG3.out.below hb HG3.out.lt
    have a0:=(hx4.cell 0).trans rfl
    have a1:=(hx4.cell 1).trans rfl
    have g0:=(hg4.cell 0).trans rfl
    have g1:=(hg4.cell 1).trans rfl
    have hmil:mi≤4000:=by have:=stsL_len l 0 i;omega
    by_cases hlt:i<n
    ·have hiz:(i:Int)<(n:Int):=by omega
     have hil:i<l.length:=by rw[← HL.out];exact hlt
     have hTi:=HTT.out HOK.out _ (bt HB3.out hb)
     obtain⟨bA,off,K,cK,hA,xt,x0,xr⟩:=node_at hTi.nds (Below.refl _ W4) i hil
     subst hA
     clear xr
     rw[← Tr.nth_eq hil]at x0
     have hof:=of_any (HGR.out.below hb) (by have:=HBIG.out;omega) vc UA NP uc (i:Int)
     rw[HNG.out.1]at hof
     have hss:=stsL_succ l (Nat.zero_le i)
     obtain⟨kd,hkd⟩:∃kd,(Tr.nth l i).kd=kd:=⟨_,rfl⟩
     rw[hkd]at x0 hss
     cases hst:stmB kd with
     |false=>
      rw[HIS.out.of_no (z:=(i:Int)) (fun q e=>by obtain rfl:i=q:=(by omega);rw[hkd];exact hst)]at hof
      have HOF:=Lib.hid hof
      rw[hst]at hss
      have HSS:=Lib.hid (show(stsL l 0 (i+1)).length=mi by rw[hss,hmi.symm];simp)
      have hkk:¬(7≤kd∧kd≤17):=fun e=>by unfold stmB at hst;simp at hst;omega
      clear hof hss hst hkd hTi hil hmi hi hb hx4 hg4 xt
      by_cases h7:(7:Int)≤kd
      ·have h17:decide (kd≤17)=false:=decide_eq_false (by omega)
       have hd7:decide ((7:Int)≤kd)=true:=decide_eq_true h7
       clear hkk
       go_wp2_with (go_at_call 25;refine HOF.out.mono ?_;rintro e w5 ⟨rfl,hb5⟩;have HB5:=Lib.hid (bt HB4.out hb5);clear hb5)
       go_roundg (n-(i+1))
       case measure=>have:=HGK.out;omega
       case rel=>exact⟨i+1,by omega,by go_num,by rw[HSS.out],HB5.out⟩
      ·have hd7:decide ((7:Int)≤kd)=false:=decide_eq_false h7
       clear hkk
       go_wp2_with (go_at_call 25;refine HOF.out.mono ?_;rintro e w5 ⟨rfl,hb5⟩;have HB5:=Lib.hid (bt HB4.out hb5);clear hb5)
       go_roundg (n-(i+1))
       case measure=>have:=HGK.out;omega
       case rel=>exact⟨i+1,by omega,by go_num,by rw[HSS.out],HB5.out⟩
     |true=>
      obtain⟨at_,hat,p,hix,hok⟩:=node_ok HRT.out HIS.out hil (by rw[hkd];exact hst)
      rw[hix]at hof
      have HOF:=Lib.hid hof
      rw[hst]at hss
      have HSS:=Lib.hid (show(stsL l 0 (i+1)).length=mi+1 by rw[hss,hmi.symm];simp)
      have hkk:7≤kd∧kd≤17:=by unfold stmB at hst;simpa using hst
      have hk7:=hkk.1
      have hk17:=hkk.2
      obtain⟨K5,c5,y0,y1,y2,y3,y4,hk5⟩:=HGR.out.node hat
      obtain⟨⟨hp,hpl,hpr,how,hrs,hlen⟩,hx⟩:=And.intro hok (rfl:s.G[at_]'hat=s.G[at_]'hat)
      rw[hpl]at y1
      rw[hpr]at y2
      generalize (s.G[at_]'hat).kd=kg at *
      generalize (s.G[at_]'hat).rs=rs at *
      generalize (s.G[at_]'hat).nx.length=ln at *
      obtain⟨Ri,hRi⟩:∃Ri,R i=Ri:=⟨_,rfl⟩
      rw[hRi]at hrs
      rw[hkd]at hlen
      have HLEN:=Lib.hid hlen
      clear hlen
      have HYY:=Lib.hid (fun(W:World) (q:Below W3.heap.size W3 W)=>show W.cell? ⟨gb,at_*5,none⟩=some (.int .i64 kg)∧W.cell? ⟨gb,at_*5+1,none⟩=some (.int .i64 (i:Int))∧W.cell? ⟨gb,at_*5+2,none⟩=some (.int .i64 (p:Int))∧W.cell? ⟨gb,at_*5+3,none⟩=some (.slice K5 ln c5)∧W.cell? ⟨gb,at_*5+4,none⟩=some (.int .i64 rs) from
       ⟨(q.cell (p:=⟨gb,at_*5,none⟩) HGR.out.lt).trans y0,(q.cell (p:=⟨gb,at_*5+1,none⟩) HGR.out.lt).trans y1,(q.cell (p:=⟨gb,at_*5+2,none⟩) HGR.out.lt).trans y2,(q.cell (p:=⟨gb,at_*5+3,none⟩) HGR.out.lt).trans y3,(q.cell (p:=⟨gb,at_*5+4,none⟩) HGR.out.lt).trans y4⟩)
      have HGB:=Lib.hid (fun(W:World) (q:Below W3.heap.size W3 W)=>show W.cell? ⟨z3,0,none⟩=some (.slice (some ⟨gb,0,none⟩) NG vc)∧W.cell? ⟨z3,1,none⟩=some (.slice UA NP uc) from⟨((HG3.out.below q HG3.out.lt).cell 0).trans rfl,((HG3.out.below q HG3.out.lt).cell 1).trans rfl⟩)
      have hatz:(at_:Int)<(NG:Int):=by have:=HNG.out.1;omega
      have hng:NG≤20000:=by rw[← HNG.out.1];exact HBIG.out
      have hpn:p<s.P.length:=by rw[HPL.out];exact hp
      have hpz:(p:Int)<(NP:Int):=by have:=HNG.out.2;omega
      have hpe:s.P[p]'hpn=owA l i:=by rw[← how];simp[HPS.out]
      obtain⟨bP,oP,hUA,hlP,hcP⟩:=HIN.out (by omega)
      subst hUA
      have y5:=hcP p hpn
      rw[hpe]at y5
      have HOW:=Lib.hid (fun(W:World) (q:Below W3.heap.size W3 W)=>show Calls Tryz.prog 32 #[.agg #[.slice (some ⟨bA,off,none⟩) n c,.int .i64 r],.int .i64 (i:Int)] W (Tr.IPost (owA l i) W)from by
       have t:=owner_any (HTT.out HOK.out _ (bt HB3.out q)) c r (i:Int)
       rw[owT_in (ok_rg HR.out) hil]at t
       exact t)
      have HRA:=Lib.hid (fun(W:World) (q:Below W3.heap.size W3 W)=>show Calls Tryz.prog 19 #[.agg #[.slice (some ⟨bA,off,none⟩) n c,.int .i64 r],.int .i64 (i:Int)] W (VPost (.bool Ri) W)from by
       have t:=raises_in (HTT.out HOK.out _ (bt HB3.out q)) c r HR.out hlt
       rw[HRS.out,hRi]at t
       exact t)
      generalize owA l i=ow at *
      have HY5:=Lib.hid (fun(W:World) (q:Below W3.heap.size W3 W)=>show W.cell? ⟨bP,oP+p,none⟩=some (.int .i64 ow) from(q.cell (p:=⟨bP,oP+p,none⟩) hlP).trans y5)
      have HXT:=Lib.hid (fun(W:World) (q:Below W3.heap.size W3 W)=>show W.cell? ⟨w.heap.size,0,none⟩=some (.slice (some ⟨bA,off,none⟩) n c)∧W.cell? ⟨w.heap.size,1,none⟩=some (.int .i64 r) from⟨((HX3.out.below q HX3.out.lt).cell 0).trans rfl,((HX3.out.below q HX3.out.lt).cell 1).trans rfl⟩)
      clear hof hss hst hTi hil hmi hi hb hx4 hg4 xt hkk y0 y1 y2 y3 y4 y5 hk5 hp hpl hpr how hpn hpe hlP hcP hok hx hix hkd hRi hat
      go_upto_region 17 with(go_at_call 25;refine HOF.out.mono ?_;rintro e w5 ⟨rfl,hb5⟩;have HB5:=Lib.hid (bt HB4.out hb5);clear hb5;clear a0 a1 g0 g1;obtain⟨a0,a1⟩:=HXT.out _ HB5.out;obtain⟨g0,g1⟩:=HGB.out _ HB5.out;obtain⟨y0,y1,y2,y3,y4⟩:=HYY.out _ HB5.out)
      go_upto_region 19 with(fail)
      obtain⟨W6,hW6⟩:∃W6,w5.alloc (.cells #[.int .i64 kg,.int .i64 (i:Int),.int .i64 (p:Int),.slice K5 ln c5,.int .i64 rs] 42)=W6:=⟨_,rfl⟩
      have HB6:=Lib.hid (show Below W3.heap.size W3 W6 by rw[← hW6];exact bt HB5.out (heap1 _ _))
      have HN6:=Lib.hid (show Bx W6 w5.heap.size 42 [.int .i64 kg,.int .i64 (i:Int),.int .i64 (p:Int),.slice K5 ln c5,.int .i64 rs]by rw[← hW6];exact Bx.new w5 42 _)
      obtain⟨z5,hz5⟩:∃z5,w5.heap.size=z5:=⟨_,rfl⟩
      rw[hz5]at HN6
      rw[hW6,hz5]
      clear hW6 hz5 a0 a1 g0 g1 y0 y1 y2 y3 y4
      go_cut [105] (fun x wx=>x = .bool false∧Below W6.heap.size W6 wx)
      case first=>
       have f0:∀w',Below W6.heap.size W6 w'→w'.cell? ⟨z5,1,none⟩=some (.int .i64 (i:Int)):=fun w' q=>((HN6.out.below q HN6.out.lt).cell 1).trans rfl
       have f1:∀w',Below W6.heap.size W6 w'→w'.cell? ⟨z5,2,none⟩=some (.int .i64 (p:Int)):=fun w' q=>((HN6.out.below q HN6.out.lt).cell 2).trans rfl
       have f2:∀w',Below W6.heap.size W6 w'→w'.cell? ⟨z5,4,none⟩=some (.int .i64 rs):=fun w' q=>((HN6.out.below q HN6.out.lt).cell 4).trans rfl
       have f3:∀w',Below W6.heap.size W6 w'→w'.cell? ⟨z3,1,none⟩=some (.slice (some ⟨bP,oP,none⟩) NP uc):=fun w' q=>(HGB.out _ (bt HB6.out q)).2
       have f4:∀w',Below W6.heap.size W6 w'→w'.cell? ⟨bP,oP+p,none⟩=some (.int .i64 ow):=fun w' q=>HY5.out _ (bt HB6.out q)
       have f5:∀w',Below W6.heap.size W6 w'→w'.cell? ⟨w.heap.size,0,none⟩=some (.slice (some ⟨bA,off,none⟩) n c):=fun w' q=>(HXT.out _ (bt HB6.out q)).1
       have f6:∀w',Below W6.heap.size W6 w'→w'.cell? ⟨w.heap.size,1,none⟩=some (.int .i64 r):=fun w' q=>(HXT.out _ (bt HB6.out q)).2
       have HOW6:=Lib.hid (fun(W:World) (q:Below W6.heap.size W6 W)=>HOW.out W (bt HB6.out q))
       have HRA6:=Lib.hid (fun(W:World) (q:Below W6.heap.size W6 W)=>HRA.out W (bt HB6.out q))
       have hp0:decide ((p:Int)<0)=false:=decide_eq_false (by omega)
       have hp1:decide (NP≤p)=false:=decide_eq_false (by omega)
       by_cases h16:kd=16
       ·subst h16
        refine wp_region_held (S:=(fun W'=>Below W6.heap.size W6 W')) (by kernel_rfl) ?_
        have hS:Below W6.heap.size W6 ({ W6 with drawn:=W6.drawn+1 }:World):=(Below.refl _ _).drew
        generalize ({ W6 with drawn:=W6.drawn+1 }:World)=V0 at hS ⊢
        refine Fl.hpu 0 (o:=({ dst:=some 64,op:=Op.fieldAddr 42 (Operand.tmp 11) 1,type:=0,pos := "law.go:159",after := #[],guard:=none }:Oper)) (.pointer (some ⟨z5,1,none⟩)) (by kernel_rfl) rfl rfl (fun _ _ _ h=>h) rfl (by intro w' hSw;have e0:=f0 _ hSw;have e1:=f1 _ hSw;have e2:=f2 _ hSw;have e3:=f3 _ hSw;have e4:=f4 _ hSw;have e5:=f5 _ hSw;have e6:=f6 _ hSw;clear hSw f0 f1 f2 f3 f4 f5 f6;go_simp) hS ?_
        try simp only[Fl.ap]
        refine Fl.hpu 1 (o:=({ dst:=some 65,op:=Op.load 3 (Operand.tmp 64),type:=3,pos := "law.go:159",after := #[{ on:=0,ground:=Ground.data }],guard:=none }:Oper)) (.int .i64 (i:Int)) (by kernel_rfl) rfl rfl (fun _ _ _ h=>h) rfl (by intro w' hSw;have e0:=f0 _ hSw;have e1:=f1 _ hSw;have e2:=f2 _ hSw;have e3:=f3 _ hSw;have e4:=f4 _ hSw;have e5:=f5 _ hSw;have e6:=f6 _ hSw;clear hSw f0 f1 f2 f3 f4 f5 f6;go_simp) hS ?_
        try simp only[Fl.ap]
        refine Fl.hpu 2 (o:=({ dst:=some 66,op:=Op.move (Operand.tmp 8),type:=3,pos := "law.go:159",after := #[],guard:=none }:Oper)) (.int .i64 (i:Int)) (by kernel_rfl) rfl rfl (fun _ _ _ h=>h) rfl (by intro w' hSw;have e0:=f0 _ hSw;have e1:=f1 _ hSw;have e2:=f2 _ hSw;have e3:=f3 _ hSw;have e4:=f4 _ hSw;have e5:=f5 _ hSw;have e6:=f6 _ hSw;clear hSw f0 f1 f2 f3 f4 f5 f6;go_simp) hS ?_
        try simp only[Fl.ap]
        refine Fl.hpu 3 (o:=({ dst:=some 67,op:=Op.binOp BinOp.neq 3 (Operand.tmp 65) (Operand.tmp 66) 3,type:=4,pos := "law.go:159",after := #[{ on:=1,ground:=Ground.data },{ on:=2,ground:=Ground.data }],guard:=none }:Oper)) (.bool false) (by kernel_rfl) rfl rfl (fun _ _ _ h=>h) rfl (by intro w' hSw;have e0:=f0 _ hSw;have e1:=f1 _ hSw;have e2:=f2 _ hSw;have e3:=f3 _ hSw;have e4:=f4 _ hSw;have e5:=f5 _ hSw;have e6:=f6 _ hSw;clear hSw f0 f1 f2 f3 f4 f5 f6;go_simp) hS ?_
        try simp only[Fl.ap]
        refine Fl.hpu 4 (o:=({ dst:=some 68,op:=Op.move (Operand.tmp 67),type:=4,pos := "law.go:159",after := #[{ on:=3,ground:=Ground.data }],guard:=none }:Oper)) (.bool false) (by kernel_rfl) rfl rfl (fun _ _ _ h=>h) rfl (by intro w' hSw;have e0:=f0 _ hSw;have e1:=f1 _ hSw;have e2:=f2 _ hSw;have e3:=f3 _ hSw;have e4:=f4 _ hSw;have e5:=f5 _ hSw;have e6:=f6 _ hSw;clear hSw f0 f1 f2 f3 f4 f5 f6;go_simp) hS ?_
        try simp only[Fl.ap]
        refine Fl.hpu 5 (o:=({ dst:=some 69,op:=Op.fieldAddr 42 (Operand.tmp 11) 2,type:=0,pos := "law.go:159",after := #[{ on:=4,ground:=Ground.guard }],guard:=some (4,false) }:Oper)) (.pointer (some ⟨z5,2,none⟩)) (by kernel_rfl) rfl rfl (fun _ _ _ h=>h) rfl (by intro w' hSw;have e0:=f0 _ hSw;have e1:=f1 _ hSw;have e2:=f2 _ hSw;have e3:=f3 _ hSw;have e4:=f4 _ hSw;have e5:=f5 _ hSw;have e6:=f6 _ hSw;clear hSw f0 f1 f2 f3 f4 f5 f6;go_simp) hS ?_
        try simp only[Fl.ap]
        refine Fl.hpu 6 (o:=({ dst:=some 70,op:=Op.load 3 (Operand.tmp 69),type:=3,pos := "law.go:159",after := #[{ on:=5,ground:=Ground.data },{ on:=4,ground:=Ground.guard }],guard:=some (4,false) }:Oper)) (.int .i64 (p:Int)) (by kernel_rfl) rfl rfl (fun _ _ _ h=>h) rfl (by intro w' hSw;have e0:=f0 _ hSw;have e1:=f1 _ hSw;have e2:=f2 _ hSw;have e3:=f3 _ hSw;have e4:=f4 _ hSw;have e5:=f5 _ hSw;have e6:=f6 _ hSw;clear hSw f0 f1 f2 f3 f4 f5 f6;go_simp) hS ?_
        try simp only[Fl.ap]
        refine Fl.hpu 7 (o:=({ dst:=some 71,op:=Op.binOp BinOp.lss 3 (Operand.tmp 70) (Operand.const (Value.int IntKind.i64 0)) 3,type:=4,pos := "law.go:159",after := #[{ on:=6,ground:=Ground.data },{ on:=4,ground:=Ground.guard }],guard:=some (4,false) }:Oper)) (.bool false) (by kernel_rfl) rfl rfl (fun _ _ _ h=>h) rfl (by intro w' hSw;have e0:=f0 _ hSw;have e1:=f1 _ hSw;have e2:=f2 _ hSw;have e3:=f3 _ hSw;have e4:=f4 _ hSw;have e5:=f5 _ hSw;have e6:=f6 _ hSw;clear hSw f0 f1 f2 f3 f4 f5 f6;go_simp) hS ?_
        try simp only[Fl.ap]
        refine Fl.hpu 8 (o:=({ dst:=some 72,op:=Op.pick (Operand.tmp 68) (Operand.const (Value.bool true)) (Operand.tmp 71),type:=4,pos := "law.go:159",after := #[{ on:=4,ground:=Ground.data },{ on:=7,ground:=Ground.data }],guard:=none }:Oper)) (.bool false) (by kernel_rfl) rfl rfl (fun _ _ _ h=>h) rfl (by intro w' hSw;have e0:=f0 _ hSw;have e1:=f1 _ hSw;have e2:=f2 _ hSw;have e3:=f3 _ hSw;have e4:=f4 _ hSw;have e5:=f5 _ hSw;have e6:=f6 _ hSw;clear hSw f0 f1 f2 f3 f4 f5 f6;go_simp) hS ?_
        try simp only[Fl.ap]
        refine Fl.hpu 9 (o:=({ dst:=some 73,op:=Op.move (Operand.tmp 72),type:=4,pos := "law.go:159",after := #[{ on:=8,ground:=Ground.data },{ on:=4,ground:=Ground.chain }],guard:=none }:Oper)) (.bool false) (by kernel_rfl) rfl rfl (fun _ _ _ h=>h) rfl (by intro w' hSw;have e0:=f0 _ hSw;have e1:=f1 _ hSw;have e2:=f2 _ hSw;have e3:=f3 _ hSw;have e4:=f4 _ hSw;have e5:=f5 _ hSw;have e6:=f6 _ hSw;clear hSw f0 f1 f2 f3 f4 f5 f6;go_simp) hS ?_
        try simp only[Fl.ap]
        refine Fl.hpu 10 (o:=({ dst:=some 74,op:=Op.fieldAddr 42 (Operand.tmp 11) 2,type:=0,pos := "law.go:159",after := #[{ on:=9,ground:=Ground.guard }],guard:=some (9,false) }:Oper)) (.pointer (some ⟨z5,2,none⟩)) (by kernel_rfl) rfl rfl (fun _ _ _ h=>h) rfl (by intro w' hSw;have e0:=f0 _ hSw;have e1:=f1 _ hSw;have e2:=f2 _ hSw;have e3:=f3 _ hSw;have e4:=f4 _ hSw;have e5:=f5 _ hSw;have e6:=f6 _ hSw;clear hSw f0 f1 f2 f3 f4 f5 f6;go_simp) hS ?_
        try simp only[Fl.ap]
        refine Fl.hpu 11 (o:=({ dst:=some 75,op:=Op.load 3 (Operand.tmp 74),type:=3,pos := "law.go:159",after := #[{ on:=10,ground:=Ground.data },{ on:=9,ground:=Ground.guard }],guard:=some (9,false) }:Oper)) (.int .i64 (p:Int)) (by kernel_rfl) rfl rfl (fun _ _ _ h=>h) rfl (by intro w' hSw;have e0:=f0 _ hSw;have e1:=f1 _ hSw;have e2:=f2 _ hSw;have e3:=f3 _ hSw;have e4:=f4 _ hSw;have e5:=f5 _ hSw;have e6:=f6 _ hSw;clear hSw f0 f1 f2 f3 f4 f5 f6;go_simp) hS ?_
        try simp only[Fl.ap]
        refine Fl.hpu 12 (o:=({ dst:=some 76,op:=Op.fieldAddr 30 (Operand.tmp 5) 1,type:=0,pos := "law.go:159",after := #[{ on:=9,ground:=Ground.guard }],guard:=some (9,false) }:Oper)) (.pointer (some ⟨z3,1,none⟩)) (by kernel_rfl) rfl rfl (fun _ _ _ h=>h) rfl (by intro w' hSw;have e0:=f0 _ hSw;have e1:=f1 _ hSw;have e2:=f2 _ hSw;have e3:=f3 _ hSw;have e4:=f4 _ hSw;have e5:=f5 _ hSw;have e6:=f6 _ hSw;clear hSw f0 f1 f2 f3 f4 f5 f6;go_simp) hS ?_
        try simp only[Fl.ap]
        refine Fl.hpu 13 (o:=({ dst:=some 77,op:=Op.load 28 (Operand.tmp 76),type:=28,pos := "law.go:159",after := #[{ on:=12,ground:=Ground.data },{ on:=9,ground:=Ground.guard }],guard:=some (9,false) }:Oper)) (.slice (some ⟨bP,oP,none⟩) NP uc) (by kernel_rfl) rfl rfl (fun _ _ _ h=>h) rfl (by intro w' hSw;have e0:=f0 _ hSw;have e1:=f1 _ hSw;have e2:=f2 _ hSw;have e3:=f3 _ hSw;have e4:=f4 _ hSw;have e5:=f5 _ hSw;have e6:=f6 _ hSw;clear hSw f0 f1 f2 f3 f4 f5 f6;go_simp) hS ?_
        try simp only[Fl.ap]
        refine Fl.hpu 14 (o:=({ dst:=some 78,op:=Op.call { callee:=Callee.builtin Builtin.len,args := #[Operand.tmp 77],argTypes := #[28] },type:=3,pos := "law.go:159",after := #[{ on:=13,ground:=Ground.data },{ on:=9,ground:=Ground.guard }],guard:=some (9,false) }:Oper)) (.int .i64 (NP:Int)) (by kernel_rfl) rfl rfl (fun _ _ _ h=>h) rfl (by intro w' hSw;have e0:=f0 _ hSw;have e1:=f1 _ hSw;have e2:=f2 _ hSw;have e3:=f3 _ hSw;have e4:=f4 _ hSw;have e5:=f5 _ hSw;have e6:=f6 _ hSw;clear hSw f0 f1 f2 f3 f4 f5 f6;go_simp) hS ?_
        try simp only[Fl.ap]
        refine Fl.hpu 15 (o:=({ dst:=some 79,op:=Op.binOp BinOp.geq 3 (Operand.tmp 75) (Operand.tmp 78) 3,type:=4,pos := "law.go:159",after := #[{ on:=11,ground:=Ground.data },{ on:=14,ground:=Ground.data },{ on:=9,ground:=Ground.guard }],guard:=some (9,false) }:Oper)) (.bool false) (by kernel_rfl) rfl rfl (fun _ _ _ h=>h) rfl (by intro w' hSw;have e0:=f0 _ hSw;have e1:=f1 _ hSw;have e2:=f2 _ hSw;have e3:=f3 _ hSw;have e4:=f4 _ hSw;have e5:=f5 _ hSw;have e6:=f6 _ hSw;clear hSw f0 f1 f2 f3 f4 f5 f6;go_simp) hS ?_
        try simp only[Fl.ap]
        refine Fl.hpu 16 (o:=({ dst:=some 80,op:=Op.pick (Operand.tmp 73) (Operand.const (Value.bool true)) (Operand.tmp 79),type:=4,pos := "law.go:159",after := #[{ on:=9,ground:=Ground.data },{ on:=15,ground:=Ground.data }],guard:=none }:Oper)) (.bool false) (by kernel_rfl) rfl rfl (fun _ _ _ h=>h) rfl (by intro w' hSw;have e0:=f0 _ hSw;have e1:=f1 _ hSw;have e2:=f2 _ hSw;have e3:=f3 _ hSw;have e4:=f4 _ hSw;have e5:=f5 _ hSw;have e6:=f6 _ hSw;clear hSw f0 f1 f2 f3 f4 f5 f6;go_simp) hS ?_
        try simp only[Fl.ap]
        refine Fl.hpu 17 (o:=({ dst:=some 81,op:=Op.move (Operand.tmp 80),type:=4,pos := "law.go:159",after := #[{ on:=16,ground:=Ground.data },{ on:=9,ground:=Ground.chain }],guard:=none }:Oper)) (.bool false) (by kernel_rfl) rfl rfl (fun _ _ _ h=>h) rfl (by intro w' hSw;have e0:=f0 _ hSw;have e1:=f1 _ hSw;have e2:=f2 _ hSw;have e3:=f3 _ hSw;have e4:=f4 _ hSw;have e5:=f5 _ hSw;have e6:=f6 _ hSw;clear hSw f0 f1 f2 f3 f4 f5 f6;go_simp) hS ?_
        try simp only[Fl.ap]
        refine Fl.hpu 18 (o:=({ dst:=some 82,op:=Op.fieldAddr 30 (Operand.tmp 5) 1,type:=0,pos := "law.go:159",after := #[{ on:=17,ground:=Ground.guard }],guard:=some (17,false) }:Oper)) (.pointer (some ⟨z3,1,none⟩)) (by kernel_rfl) rfl rfl (fun _ _ _ h=>h) rfl (by intro w' hSw;have e0:=f0 _ hSw;have e1:=f1 _ hSw;have e2:=f2 _ hSw;have e3:=f3 _ hSw;have e4:=f4 _ hSw;have e5:=f5 _ hSw;have e6:=f6 _ hSw;clear hSw f0 f1 f2 f3 f4 f5 f6;go_simp) hS ?_
        try simp only[Fl.ap]
        refine Fl.hpu 19 (o:=({ dst:=some 83,op:=Op.load 28 (Operand.tmp 82),type:=28,pos := "law.go:159",after := #[{ on:=18,ground:=Ground.data },{ on:=17,ground:=Ground.guard }],guard:=some (17,false) }:Oper)) (.slice (some ⟨bP,oP,none⟩) NP uc) (by kernel_rfl) rfl rfl (fun _ _ _ h=>h) rfl (by intro w' hSw;have e0:=f0 _ hSw;have e1:=f1 _ hSw;have e2:=f2 _ hSw;have e3:=f3 _ hSw;have e4:=f4 _ hSw;have e5:=f5 _ hSw;have e6:=f6 _ hSw;clear hSw f0 f1 f2 f3 f4 f5 f6;go_simp) hS ?_
        try simp only[Fl.ap]
        refine Fl.hpu 20 (o:=({ dst:=some 84,op:=Op.fieldAddr 42 (Operand.tmp 11) 2,type:=0,pos := "law.go:159",after := #[{ on:=17,ground:=Ground.guard }],guard:=some (17,false) }:Oper)) (.pointer (some ⟨z5,2,none⟩)) (by kernel_rfl) rfl rfl (fun _ _ _ h=>h) rfl (by intro w' hSw;have e0:=f0 _ hSw;have e1:=f1 _ hSw;have e2:=f2 _ hSw;have e3:=f3 _ hSw;have e4:=f4 _ hSw;have e5:=f5 _ hSw;have e6:=f6 _ hSw;clear hSw f0 f1 f2 f3 f4 f5 f6;go_simp) hS ?_
        try simp only[Fl.ap]
        refine Fl.hpu 21 (o:=({ dst:=some 85,op:=Op.load 3 (Operand.tmp 84),type:=3,pos := "law.go:159",after := #[{ on:=20,ground:=Ground.data },{ on:=17,ground:=Ground.guard }],guard:=some (17,false) }:Oper)) (.int .i64 (p:Int)) (by kernel_rfl) rfl rfl (fun _ _ _ h=>h) rfl (by intro w' hSw;have e0:=f0 _ hSw;have e1:=f1 _ hSw;have e2:=f2 _ hSw;have e3:=f3 _ hSw;have e4:=f4 _ hSw;have e5:=f5 _ hSw;have e6:=f6 _ hSw;clear hSw f0 f1 f2 f3 f4 f5 f6;go_simp) hS ?_
        try simp only[Fl.ap]
        refine Fl.hpu 22 (o:=({ dst:=some 86,op:=Op.indexAddr 28 (Operand.tmp 83) (Operand.tmp 85),type:=0,pos := "law.go:159",after := #[{ on:=19,ground:=Ground.data },{ on:=21,ground:=Ground.data },{ on:=17,ground:=Ground.guard }],guard:=some (17,false) }:Oper)) (.pointer (some ⟨bP,oP+p,none⟩)) (by kernel_rfl) rfl rfl (fun _ _ _ h=>h) rfl (by intro w' hSw;have e0:=f0 _ hSw;have e1:=f1 _ hSw;have e2:=f2 _ hSw;have e3:=f3 _ hSw;have e4:=f4 _ hSw;have e5:=f5 _ hSw;have e6:=f6 _ hSw;clear hSw f0 f1 f2 f3 f4 f5 f6;go_simp) hS ?_
        try simp only[Fl.ap]
        refine Fl.hpu 23 (o:=({ dst:=some 87,op:=Op.load 3 (Operand.tmp 86),type:=3,pos := "law.go:159",after := #[{ on:=22,ground:=Ground.data },{ on:=17,ground:=Ground.guard }],guard:=some (17,false) }:Oper)) (.int .i64 ow) (by kernel_rfl) rfl rfl (fun _ _ _ h=>h) rfl (by intro w' hSw;have e0:=f0 _ hSw;have e1:=f1 _ hSw;have e2:=f2 _ hSw;have e3:=f3 _ hSw;have e4:=f4 _ hSw;have e5:=f5 _ hSw;have e6:=f6 _ hSw;clear hSw f0 f1 f2 f3 f4 f5 f6;go_simp) hS ?_
        try simp only[Fl.ap]
        refine Fl.hpu 24 (o:=({ dst:=some 88,op:=Op.load 24 (Operand.tmp 1),type:=24,pos := "law.go:159",after := #[{ on:=17,ground:=Ground.guard }],guard:=some (17,false) }:Oper)) (.agg #[.slice (some ⟨bA,off,none⟩) n c,.int .i64 r]) (by kernel_rfl) rfl rfl (fun _ _ _ h=>h) rfl (by intro w' hSw;have e0:=f0 _ hSw;have e1:=f1 _ hSw;have e2:=f2 _ hSw;have e3:=f3 _ hSw;have e4:=f4 _ hSw;have e5:=f5 _ hSw;have e6:=f6 _ hSw;clear hSw f0 f1 f2 f3 f4 f5 f6;go_simp) hS ?_
        try simp only[Fl.ap]
        refine Fl.hpu 25 (o:=({ dst:=some 89,op:=Op.move (Operand.tmp 8),type:=3,pos := "law.go:159",after := #[{ on:=17,ground:=Ground.guard }],guard:=some (17,false) }:Oper)) (.int .i64 (i:Int)) (by kernel_rfl) rfl rfl (fun _ _ _ h=>h) rfl (by intro w' hSw;have e0:=f0 _ hSw;have e1:=f1 _ hSw;have e2:=f2 _ hSw;have e3:=f3 _ hSw;have e4:=f4 _ hSw;have e5:=f5 _ hSw;have e6:=f6 _ hSw;clear hSw f0 f1 f2 f3 f4 f5 f6;go_simp) hS ?_
        try simp only[Fl.ap]
        refine Fl.h_call 26 ({ dst:=some 90,op:=Op.call { callee:=Callee.value (Operand.func 32),args := #[Operand.tmp 88,Operand.tmp 89],argTypes := #[24,3] },type:=3,pos := "law.go:159",after := #[{ on:=24,ground:=Ground.data },{ on:=25,ground:=Ground.data },{ on:=17,ground:=Ground.chain },{ on:=17,ground:=Ground.guard }],guard:=some (17,false) }:Oper) (fun v w1=>v = .int .i64 ow∧Below V0.heap.size V0 w1) own32 rfl rfl rfl (by kernel_rfl) rfl (args := #[.agg #[.slice (some ⟨bA,off,none⟩) n c,.int .i64 r],.int .i64 (i:Int)]) rfl ((HOW6.out _ hS).mono fun e w1 q=>⟨_,q.1,rfl,q.2⟩) ?_
        rintro v V1 ⟨rfl,hb7⟩
        have hS:=bt hS hb7
        refine⟨hS,?_⟩
        try simp only[Fl.ap]
        refine Fl.hpu 27 (o:=({ dst:=some 91,op:=Op.binOp BinOp.neq 3 (Operand.tmp 87) (Operand.tmp 90) 3,type:=4,pos := "law.go:159",after := #[{ on:=23,ground:=Ground.data },{ on:=26,ground:=Ground.data },{ on:=17,ground:=Ground.guard }],guard:=some (17,false) }:Oper)) (.bool false) (by kernel_rfl) rfl rfl (fun _ _ _ h=>h) rfl (by intro w' hSw;have e0:=f0 _ hSw;have e1:=f1 _ hSw;have e2:=f2 _ hSw;have e3:=f3 _ hSw;have e4:=f4 _ hSw;have e5:=f5 _ hSw;have e6:=f6 _ hSw;clear hSw f0 f1 f2 f3 f4 f5 f6;go_simp) hS ?_
        try simp only[Fl.ap]
        refine Fl.hpu 28 (o:=({ dst:=some 92,op:=Op.pick (Operand.tmp 81) (Operand.const (Value.bool true)) (Operand.tmp 91),type:=4,pos := "law.go:159",after := #[{ on:=17,ground:=Ground.data },{ on:=27,ground:=Ground.data }],guard:=none }:Oper)) (.bool false) (by kernel_rfl) rfl rfl (fun _ _ _ h=>h) rfl (by intro w' hSw;have e0:=f0 _ hSw;have e1:=f1 _ hSw;have e2:=f2 _ hSw;have e3:=f3 _ hSw;have e4:=f4 _ hSw;have e5:=f5 _ hSw;have e6:=f6 _ hSw;clear hSw f0 f1 f2 f3 f4 f5 f6;go_simp) hS ?_
        try simp only[Fl.ap]
        refine Fl.hpu 29 (o:=({ dst:=some 93,op:=Op.move (Operand.tmp 92),type:=4,pos := "law.go:159",after := #[{ on:=28,ground:=Ground.data },{ on:=26,ground:=Ground.chain }],guard:=none }:Oper)) (.bool false) (by kernel_rfl) rfl rfl (fun _ _ _ h=>h) rfl (by intro w' hSw;have e0:=f0 _ hSw;have e1:=f1 _ hSw;have e2:=f2 _ hSw;have e3:=f3 _ hSw;have e4:=f4 _ hSw;have e5:=f5 _ hSw;have e6:=f6 _ hSw;clear hSw f0 f1 f2 f3 f4 f5 f6;go_simp) hS ?_
        try simp only[Fl.ap]
        refine Fl.hpu 30 (o:=({ dst:=some 94,op:=Op.move (Operand.tmp 9),type:=3,pos := "law.go:159",after := #[{ on:=29,ground:=Ground.guard }],guard:=some (29,false) }:Oper)) (.int .i64 16) (by kernel_rfl) rfl rfl (fun _ _ _ h=>h) rfl (by intro w' hSw;have e0:=f0 _ hSw;have e1:=f1 _ hSw;have e2:=f2 _ hSw;have e3:=f3 _ hSw;have e4:=f4 _ hSw;have e5:=f5 _ hSw;have e6:=f6 _ hSw;clear hSw f0 f1 f2 f3 f4 f5 f6;go_simp) hS ?_
        try simp only[Fl.ap]
        refine Fl.hpu 31 (o:=({ dst:=some 95,op:=Op.binOp BinOp.neq 3 (Operand.tmp 94) (Operand.const (Value.int IntKind.i64 16)) 3,type:=4,pos := "law.go:159",after := #[{ on:=30,ground:=Ground.data },{ on:=29,ground:=Ground.guard }],guard:=some (29,false) }:Oper)) (.bool false) (by kernel_rfl) rfl rfl (fun _ _ _ h=>h) rfl (by intro w' hSw;have e0:=f0 _ hSw;have e1:=f1 _ hSw;have e2:=f2 _ hSw;have e3:=f3 _ hSw;have e4:=f4 _ hSw;have e5:=f5 _ hSw;have e6:=f6 _ hSw;clear hSw f0 f1 f2 f3 f4 f5 f6;go_simp) hS ?_
        try simp only[Fl.ap]
        refine Fl.hpu 32 (o:=({ dst:=some 96,op:=Op.move (Operand.tmp 95),type:=4,pos := "law.go:159",after := #[{ on:=31,ground:=Ground.data },{ on:=29,ground:=Ground.chain },{ on:=29,ground:=Ground.guard }],guard:=some (29,false) }:Oper)) (.bool false) (by kernel_rfl) rfl rfl (fun _ _ _ h=>h) rfl (by intro w' hSw;have e0:=f0 _ hSw;have e1:=f1 _ hSw;have e2:=f2 _ hSw;have e3:=f3 _ hSw;have e4:=f4 _ hSw;have e5:=f5 _ hSw;have e6:=f6 _ hSw;clear hSw f0 f1 f2 f3 f4 f5 f6;go_simp) hS ?_
        try simp only[Fl.ap]
        refine Fl.h_off 33 (o:=({ dst:=some 97,op:=Op.fieldAddr 42 (Operand.tmp 11) 4,type:=0,pos := "law.go:159",after := #[{ on:=32,ground:=Ground.guard }],guard:=some (32,true) }:Oper)) (by kernel_rfl) rfl rfl (fun _ _ _ h=>h) rfl hS ?_
        try simp only[Fl.ap]
        refine Fl.h_off 34 (o:=({ dst:=some 98,op:=Op.load 3 (Operand.tmp 97),type:=3,pos := "law.go:159",after := #[{ on:=33,ground:=Ground.data },{ on:=32,ground:=Ground.guard }],guard:=some (32,true) }:Oper)) (by kernel_rfl) rfl rfl (fun _ _ _ h=>h) rfl hS ?_
        try simp only[Fl.ap]
        refine Fl.h_off 35 (o:=({ dst:=some 99,op:=Op.binOp BinOp.geq 3 (Operand.tmp 98) (Operand.const (Value.int IntKind.i64 0)) 3,type:=4,pos := "law.go:159",after := #[{ on:=34,ground:=Ground.data },{ on:=32,ground:=Ground.guard }],guard:=some (32,true) }:Oper)) (by kernel_rfl) rfl rfl (fun _ _ _ h=>h) rfl hS ?_
        try simp only[Fl.ap]
        refine Fl.h_off 36 (o:=({ dst:=some 100,op:=Op.load 24 (Operand.tmp 1),type:=24,pos := "law.go:159",after := #[{ on:=32,ground:=Ground.guard }],guard:=some (32,true) }:Oper)) (by kernel_rfl) rfl rfl (fun _ _ _ h=>h) rfl hS ?_
        try simp only[Fl.ap]
        refine Fl.h_off 37 (o:=({ dst:=some 101,op:=Op.move (Operand.tmp 8),type:=3,pos := "law.go:159",after := #[{ on:=32,ground:=Ground.guard }],guard:=some (32,true) }:Oper)) (by kernel_rfl) rfl rfl (fun _ _ _ h=>h) rfl hS ?_
        try simp only[Fl.ap]
        refine Fl.h_off 38 (o:=({ dst:=some 102,op:=Op.call { callee:=Callee.value (Operand.func 19),args := #[Operand.tmp 100,Operand.tmp 101],argTypes := #[24,3] },type:=4,pos := "law.go:159",after := #[{ on:=36,ground:=Ground.data },{ on:=37,ground:=Ground.data },{ on:=32,ground:=Ground.chain },{ on:=32,ground:=Ground.guard }],guard:=some (32,true) }:Oper)) (by kernel_rfl) rfl rfl (fun _ _ _ h=>h) rfl hS ?_
        try simp only[Fl.ap]
        refine Fl.h_off 39 (o:=({ dst:=some 103,op:=Op.binOp BinOp.neq 4 (Operand.tmp 99) (Operand.tmp 102) 4,type:=4,pos := "law.go:159",after := #[{ on:=35,ground:=Ground.data },{ on:=38,ground:=Ground.data },{ on:=32,ground:=Ground.guard }],guard:=some (32,true) }:Oper)) (by kernel_rfl) rfl rfl (fun _ _ _ h=>h) rfl hS ?_
        try simp only[Fl.ap]
        refine Fl.hpu 40 (o:=({ dst:=some 104,op:=Op.pick (Operand.tmp 96) (Operand.tmp 103) (Operand.const (Value.bool false)),type:=4,pos := "law.go:159",after := #[{ on:=32,ground:=Ground.data },{ on:=39,ground:=Ground.data },{ on:=29,ground:=Ground.guard }],guard:=some (29,false) }:Oper)) (.bool false) (by kernel_rfl) rfl rfl (fun _ _ _ h=>h) rfl (by intro w' hSw;have e0:=f0 _ hSw;have e1:=f1 _ hSw;have e2:=f2 _ hSw;have e3:=f3 _ hSw;have e4:=f4 _ hSw;have e5:=f5 _ hSw;have e6:=f6 _ hSw;clear hSw f0 f1 f2 f3 f4 f5 f6;go_simp) hS ?_
        try simp only[Fl.ap]
        refine Fl.hpu 41 (o:=({ dst:=some 105,op:=Op.pick (Operand.tmp 93) (Operand.const (Value.bool true)) (Operand.tmp 104),type:=4,pos := "law.go:159",after := #[{ on:=29,ground:=Ground.data },{ on:=40,ground:=Ground.data }],guard:=none }:Oper)) (.bool false) (by kernel_rfl) rfl rfl (fun _ _ _ h=>h) rfl (by intro w' hSw;have e0:=f0 _ hSw;have e1:=f1 _ hSw;have e2:=f2 _ hSw;have e3:=f3 _ hSw;have e4:=f4 _ hSw;have e5:=f5 _ hSw;have e6:=f6 _ hSw;clear hSw f0 f1 f2 f3 f4 f5 f6;go_simp) hS ?_
        try simp only[Fl.ap]
        refine wpAnyH_done (by kernel_rfl) ?_ _
        go_wp2_with fail
        go_meet
        exact⟨rfl,hS⟩
       ·have hd16:(kd != 16)=true:=bne_iff_ne.2 h16
        clear h16
        go_region_held3 (fun w'=>Below W6.heap.size W6 w') (first|exact bdrew (heap1 _ _) |exact bdrew (Fl.realloc (by assumption) (Nat.le_refl _)) |exact(Below.refl _ _).drew |exact bt (by assumption) (by assumption) |go_keep)
         ((first|(go_at_call 32;refine(HOW6.out _ (by assumption)).mono ?_;rintro e w7 ⟨rfl,hb7⟩) |(go_at_call 19;refine(HRA6.out _ (by assumption)).mono ?_;rintro e w8 ⟨rfl,hb8⟩)))
        all_goals (go_wp2_with fail;go_meet;exact⟨rfl,by assumption⟩)
      case rest=>
       obtain⟨rfl,hb7⟩:=hcut
       obtain⟨W7,rfl⟩:∃W7,W7=wc:=⟨_,rfl⟩
       have y3:W7.cell? ⟨z5,3,none⟩=some (.slice K5 ln c5):=((HN6.out.below hb7 HN6.out.lt).cell 3).trans rfl
       have HB7:=Lib.hid (bt HB6.out hb7)
       have hlen:=HLEN.out
       clear hb7 hrs hatz hpz hng
       by_cases h11:kd=11
       ·subst h11
        obtain rfl:ln=2:=hlen
        go_wp2
        go_roundg (n-(i+1))
        case measure=>have:=HGK.out;omega
        case rel=>exact⟨i+1,by omega,by go_num,by rw[HSS.out];first|rfl |go_num |simp,HB7.out⟩
       by_cases h12:kd=12
       ·subst h12
        obtain rfl:ln=2:=hlen
        go_wp2
        go_roundg (n-(i+1))
        case measure=>have:=HGK.out;omega
        case rel=>exact⟨i+1,by omega,by go_num,by rw[HSS.out];first|rfl |go_num |simp,HB7.out⟩
       by_cases h15:kd=15
       ·subst h15
        obtain rfl:ln=0:=hlen
        go_wp2
        go_roundg (n-(i+1))
        case measure=>have:=HGK.out;omega
        case rel=>exact⟨i+1,by omega,by go_num,by rw[HSS.out];first|rfl |go_num |simp,HB7.out⟩
       ·have e11:(kd==11)=false:=beq_eq_false_iff_ne.2 h11
        have e12:(kd==12)=false:=beq_eq_false_iff_ne.2 h12
        have e15:(kd==15)=false:=beq_eq_false_iff_ne.2 h15
        obtain rfl:ln=1:=by rw[hlen];unfold wl;rw[if_neg (by omega),if_neg h15]
        clear hlen h11 h12 h15
        go_wp2
        go_roundg (n-(i+1))
        case measure=>have:=HGK.out;omega
        case rel=>exact⟨i+1,by omega,by go_num,by rw[HSS.out];first|rfl |go_num |simp,HB7.out⟩
    ·obtain rfl:i=n:=by omega
     have hiz:¬(i:Int)<(i:Int):=by omega
     have hcn:=HCN.out
     rw[← HL.out,hmi,HNG.out.1,← HPL.out,HNG.out.2]at hcn
     have hng:NG≤20000:=by rw[← HNG.out.1];exact HBIG.out
     have HE:=Lib.hid (bt HB3.out hb)
     clear hx4 hg4 hi hb hmi hlt
     subst hcn
     go_wp2
     go_ret
     exact⟨rfl,HE.out⟩
end Go.Proofs.YtedkgofehbecmaaGreatDoor
