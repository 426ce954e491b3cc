/- PROVED here: parts Gh Gi of the claim. No condition but those in each theorem's own head. -/
import Derived.Test.YtedkgofehbecmaaGreatDoorN32
import Derived.Test.YtedkgofehbecmaaGreatDoorN40
import Derived.Test.YtedkgofehbecmaaGreatDoorN43
import Derived.Test.YtedkgofehbecmaaGreatDoorN24
import Derived.BigQuiet
namespace Go.Proofs.YtedkgofehbecmaaGreatDoor
open Go Go.RowKit
open Tr (Snd Sd rgB sndB_true dpt dpt_yes dpL shB StU)
def fxB:List UInt8:=[112,114,111,99,32,109,97,105,110,40,41,32,123,32,118,97,114,32,120,32,105,110,116,59,32,120,32,61,32,105,110,32,108,111,59,32,105,102,32,120,32,60,32,49,32,123,32,111,117,116,32,108,111,32,120,59,32,125,32,125]
def fxT:List Tk.Tok:=[⟨4,0,0,[112,114,111,99]⟩,⟨1,0,5,[109,97,105,110]⟩,⟨3,0,9,[40]⟩,⟨3,0,10,[41]⟩,⟨3,0,12,[123]⟩,⟨4,0,14,[118,97,114]⟩,⟨1,0,18,[120]⟩,⟨4,0,20,[105,110,116]⟩,⟨3,0,23,[59]⟩,⟨1,0,25,[120]⟩,⟨3,0,27,[61]⟩,⟨4,0,29,[105,110]⟩,⟨1,0,32,[108,111]⟩,⟨3,0,34,[59]⟩,⟨4,0,36,[105,102]⟩,⟨1,0,39,[120]⟩,⟨3,0,41,[60]⟩,⟨2,1,43,[49]⟩,⟨3,0,45,[123]⟩,⟨4,0,47,[111,117,116]⟩,⟨1,0,51,[108,111]⟩,⟨1,0,54,[120]⟩,⟨3,0,55,[59]⟩,⟨3,0,57,[125]⟩,⟨3,0,59,[125]⟩,⟨5,0,60,[]⟩]
def fxN:List Nd:=[⟨5,1,14,[120],[]⟩,⟨18,0,32,[108,111],[]⟩,⟨9,0,25,[120],[1]⟩,⟨22,0,39,[120],[]⟩,⟨20,1,43,[],[]⟩,⟨27,0,41,[60],[3,4]⟩,⟨18,0,51,[108,111],[]⟩,⟨22,0,54,[120],[]⟩,⟨10,0,47,[],[6,7]⟩,⟨6,0,45,[],[8]⟩,⟨6,0,36,[],[]⟩,⟨11,0,36,[],[5,9,10]⟩,⟨6,0,12,[],[2,11]⟩,⟨3,0,0,[109,97,105,110],[0,12]⟩,⟨1,0,0,[],[13]⟩]
theorem fx_cut:Tk.cutR fxB 0 = .ok fxT:=by decide +kernel
theorem fx_par:(match progR (fxT.map cvT) with| .ok _ s=>decide (s.nd=fxN) |_=>false)=true:=by decide +kernel
theorem fx_snd:Snd (fxN.map cvN) 14:=⟨fun p=>([0,1,1,3,4,3,6,7,6,6,10,3,1,0,0]:List Nat).getD p 0,by decide,by decide,by decide,by
 intro p hp
 have hp':p<15:=hp
 revert p
 decide +kernel,by decide⟩
theorem fx_rg:rgB (fxN.map cvN) 14=true:=by
 unfold rgB
 rw[sndB_true fx_snd,dpt_yes fx_snd]
 decide +kernel
theorem fx_ans:∃k,ansOf progR fxB = .good fxN k:=tans fx_cut fx_par (by decide) (rg_dep fx_rg)
theorem fx_chk:(chkT (fxN.map cvN) 14).2=0:=by
 unfold chkT
 rw[fx_rg]
 rw[if_pos rfl]
 decide +kernel
theorem rsF_none {l:List Tr.Nd}(r:Int):∀k,(∀i,i<k→selfB (Tr.nth l i)=false)→rsF l r k=fun _=>false
 |0,_=>rfl
 |k+1,h=>by
  unfold rsF
  rw[rsF_none r k fun i hi=>h i (by omega)]
  funext j
  simp[h k (Nat.lt_succ_self k)]
theorem fx_rs:rsF (fxN.map cvN) 14 15=fun _=>false:=rsF_none _ _ (by decide +kernel)
theorem fx_gr:(grG (fxN.map cvN) fun _=>false).G=[⟨1,13,0,[3],-1⟩,⟨2,13,0,[],-1⟩,⟨3,13,0,[],-1⟩,⟨4,2,0,[5],-1⟩,⟨4,8,0,[1],-1⟩,⟨4,11,0,[4,1],-1⟩]:=by kernel_rfl
theorem fx_pr:(grG (fxN.map cvN) fun _=>false).P=[13]:=by kernel_rfl
end Go.Proofs.YtedkgofehbecmaaGreatDoor
namespace Go.Proofs.YtedkgofehbecmaaGreatDoor
open Go Go.RowKit
open Tr (Bx heap1 bt Nds Ints BPost rgB)
def OkT8 (l:List Tr.Nd):Prop:=l.length≤300∧∀x ∈ l,x.ks.length≤300∧x.tx.size≤200
def SmPost8 (l:List Tr.Nd)(w:World)(e:Ending)(w':World):Prop:=Below w.heap.size w w'∧∃b,e = .returned (.bool b)∧(b=true→OkT8 l)
set_option maxRecDepth 100000 in
set_option maxHeartbeats 1500000 in
theorem small15_any (A:Option Addr)(n c:Nat)(l:List Tr.Nd)(r:Int)(w:World)(hN:Nds w A l)(hn:n=l.length):Calls Tryz.prog 15 #[.agg #[.slice A n c,.int .i64 r]] w (SmPost8 l w):=by
 have hb0:=heap1 w (.cells #[.slice A n c,.int .i64 r] 24)
 have HNN:=Lib.hid (hN.below hb0)
 have HB:=Lib.hid hb0
 have HN:=Lib.hid hn
 clear hN hn hb0
 by_cases h4:(300:Int)<(n:Int)
 ·have hd4:decide ((300:Int)<(n:Int))=true:=decide_eq_true h4
  go_enter Tryz.func15,Tryz.ntmps15
  go_wp2
  go_ret
  exact⟨HB.out,false,rfl,fun h=>by cases h⟩
 ·have hd4:decide ((300:Int)<(n:Int))=false:=decide_eq_false h4
  go_enter Tryz.func15,Tryz.ntmps15
  go_wp2
  go_loop [3] (fun i=>∃k:Nat,k≤n∧i = .int .i64 (k:Int)∧∀x ∈ l.take k,x.ks.length≤300∧x.tx.size≤200) (fun i=>n-(intOf i).toNat)
  case atStart=>exact⟨0,Nat.zero_le _,rfl,fun t ht=>by simp at ht⟩
  case round=>
   obtain⟨k,hk,rfl,hok2⟩:=hrel
   have HOK2:=Lib.hid hok2
   clear hok2
   by_cases hkl:k<n
   ·have hkz:(k:Int)<(n:Int):=by omega
    have hkt:k<l.length:=by rw[← HN.out];exact hkl
    obtain⟨bN,oN,rfl,hbN,hcN⟩:=HNN.out (by omega)
    obtain⟨K2,c2,_,_,_,c3,c4,_⟩:=hcN k hkt
    have HXX:=Lib.hid (show l.take (k+1)=l.take k++[l[k]]from List.take_succ_eq_append_getElem hkt)
    clear hcN
    generalize l[k]=x at *
    obtain⟨kd,nn,pl,tx,ks⟩:=x
    dsimp only at c3 c4
    generalize hq:ks.length=q at *
    have HQ:=Lib.hid hq
    clear hq
    by_cases h1:(300:Int)<(q:Int)
    ·have hd1:decide ((300:Int)<(q:Int))=true:=decide_eq_true h1
     go_wp2
     go_ret
     exact⟨HB.out,false,rfl,fun h=>by cases h⟩
    ·have hd1:decide ((300:Int)<(q:Int))=false:=decide_eq_false h1
     by_cases h2:(200:Int)<(tx.size:Int)
     ·have hd2:decide ((200:Int)<(tx.size:Int))=true:=decide_eq_true h2
      go_wp2
      go_ret
      exact⟨HB.out,false,rfl,fun h=>by cases h⟩
     ·have hd2:decide ((200:Int)<(tx.size:Int))=false:=decide_eq_false h2
      go_wp2
      go_round
      case rel=>
       refine⟨k+1,by omega,by go_num,?_⟩
       rw[HXX.out]
       intro x hx
       rcases List.mem_append.1 hx with hx |hx
       ·exact HOK2.out x hx
       ·simp at hx;subst hx;exact⟨by show ks.length≤300;rw[HQ.out];omega,by show tx.size≤200;omega⟩
      case measure=>simp[intOf];omega
   ·obtain rfl:k=n:=by omega
    have hkz:¬(k:Int)<(k:Int):=by omega
    go_wp2
    go_ret
    refine⟨HB.out,true,rfl,fun _=>⟨by rw[← HN.out];omega,?_⟩⟩
    have h5:=HOK2.out
    rw[List.take_of_length_le (by rw[← HN.out];omega)]at h5
    exact h5
theorem Kd.ints {w:World}{X:Nat→Prop}{K:Option Addr}{ks:List Int}(h:Kd w X K ks):Ints w K ks:=fun h0=>by
 obtain⟨b,cs,e,hb,hc,_⟩:=h (by omega)
 refine⟨b,0,e,(Array.getElem?_eq_some_iff.1 hb).1,fun j hj =>?_⟩
 rw[cell_of_row w b (0+j) _ 3 (0,0) hb,Nat.zero_add]
 exact hc j hj
set_option maxRecDepth 100000 in
set_option maxHeartbeats 1500000 in
theorem sameInts_any {w:World}{A B:Option Addr}{xs ys:List Int}(hA:Ints w A xs)(hB:Ints w B ys)(hx:xs.length≤1000000)(_hy:ys.length≤1000000)(c d:Nat):Calls Tryz.prog 18 #[.slice A xs.length c,.slice B ys.length d] w (VPost (.bool (decide (xs=ys))) w):=by
 have HA:=Lib.hid hA
 have HB:=Lib.hid hB
 obtain⟨n,hn⟩:∃n,xs.length=n:=⟨_,rfl⟩
 obtain⟨m,hm⟩:∃m,ys.length=m:=⟨_,rfl⟩
 rw[hn,hm]
 have hn1:n≤1000000:=by omega
 have HN:=Lib.hid (And.intro hn hm)
 by_cases hnm:n=m
 ·subst hnm
  clear hA hB hn hm hx
  go_enter Tryz.func18,Tryz.ntmps18
  go_wp2
  go_loopg [5] n (fun k v5 wr=>∃i:Nat,i+k=n∧v5 = .int .i64 (i:Int)∧Below w.heap.size w wr∧xs.take i=ys.take i)
  case atStart=>exact⟨0,Nat.zero_add _,rfl,Below.refl _ _,by simp⟩
  case round=>
   obtain⟨i,hi,rfl,hb,ht⟩:=hrel
   have HBW:=Lib.hid hb
   have HT:=Lib.hid ht
   have HGK:=Lib.hid hi
   clear ht hi
   by_cases hlt:i<n
   ·have hiz:(i:Int)<(n:Int):=by omega
    obtain⟨b1,o1,e1,hl1,hc1⟩:=HA.out (by have:=HN.out;omega)
    obtain⟨b2,o2,e2,hl2,hc2⟩:=HB.out (by have:=HN.out;omega)
    subst e1
    subst e2
    have hxi:i<xs.length:=by rw[HN.out.1];exact hlt
    have hyi:i<ys.length:=by rw[HN.out.2];exact hlt
    have y1:=(hb.cell (p:=⟨b1,o1+i,none⟩) hl1).trans (hc1 i hxi)
    have y2:=(hb.cell (p:=⟨b2,o2+i,none⟩) hl2).trans (hc2 i hyi)
    have HX:=Lib.hid (show xs.take (i+1)=xs.take i++[xs[i]]from List.take_succ_eq_append_getElem hxi)
    have HY:=Lib.hid (show ys.take (i+1)=ys.take i++[ys[i]]from List.take_succ_eq_append_getElem hyi)
    have HXI:=Lib.hid (And.intro hxi hyi)
    have HNE:=Lib.hid (show xs=ys→xs[i]=ys[i]from fun e=>by subst e;rfl)
    generalize xs[i]=u at *
    generalize ys[i]=v at *
    clear hc1 hc2 hxi hyi hl1 hl2 hb
    by_cases huv:u=v
    ·subst huv
     go_upto_region 6 with(fail)
     go_quiet (fail)
     go_wp2
     go_roundg (n-(i+1))
     case measure=>have:=HGK.out;omega
     case rel=>exact⟨i+1,by omega,by go_num,Tk.below_drewN HBW.out _,by rw[HX.out,HY.out,HT.out]⟩
    ·have hne:(u != v)=true:=bne_iff_ne.2 huv
     have HD:=Lib.hid (show decide (xs=ys)=false from decide_eq_false fun e=>huv (HNE.out e))
     clear huv
     go_upto_region 6 with(fail)
     go_quiet (fail)
     go_wp2
     go_ret
     exact⟨by rw[HD.out];rfl,Tk.below_drewN HBW.out _⟩
   ·obtain rfl:i=n:=by have:=HGK.out;omega
    have hiz:¬(i:Int)<(i:Int):=by omega
    have HD:=Lib.hid (show decide (xs=ys)=true from decide_eq_true (by
     have:=HT.out
     rwa [List.take_of_length_le (by rw[HN.out.1];omega),List.take_of_length_le (by rw[HN.out.2];omega)]at this))
    go_wp2
    go_ret
    exact⟨by rw[HD.out];rfl,HBW.out⟩
 ·have hd:((n:Int) != (m:Int))=true:=bne_iff_ne.2 (by omega)
  have HD:=Lib.hid (show decide (xs=ys)=false from decide_eq_false fun e=>hnm (by rw[← hn,← hm,e]))
  rw[HD.out]
  clear hA hB hn hm hx hnm
  go_enter Tryz.func18,Tryz.ntmps18
  go_wp2
  go_ret
  exact⟨rfl,Below.refl _ _⟩
def GTf (w:World)(e:Ending)(w':World):Prop:=∃A c,e = .returned (.tuple #[.agg #[.slice A 15 c,.int .i64 14],.int .i64 0,.int .i64 0])∧Below w.heap.size w w'∧NdsB w.heap.size w' A (fxN.map cvN)
theorem ttf {B:Nat}{w:World}{A:Option Addr}(h:NdsB B w A (fxN.map cvN)):TT w A 15 (fxN.map cvN):=⟨h.nds,rfl,by decide +kernel,by decide +kernel,by decide +kernel,fun p bA off K m c hp hA hc _ h2=>by have:=h.room hp hA hc;omega⟩
set_option maxRecDepth 100000 in
set_option maxHeartbeats 4000000 in
theorem shown14_any (w:World)(hE:Tk.Errs w):Calls Tryz.prog 14 #[] w (VPost (.bool true) w):=by
 have H1:=Lib.hid (show Calls Tryz.prog 48 #[.string ⟨#[112,114,111,99,32,109,97,105,110,40,41,32,123,32,118,97,114,32,120,32,105,110,116,59,32,120,32,61,32,105,110,32,108,111,59,32,105,102,32,120,32,60,32,49,32,123,32,111,117,116,32,108,111,32,120,59,32,125,32,125]⟩] w (GTf w) from(program_any _ w hE (by decide)).mono fun _ _ q=>tree_good q fx_ans.choose_spec)
 clear hE
 go_enter Tryz.func14,Tryz.ntmps14
 go_wp2_with (go_at_call 48;refine H1.out.mono ?_)
 rintro e w1 ⟨A1,c1,rfl,hb1,hN1⟩
 have HA1:=Lib.hid (bt hb1 (heap1 w1 (.cells #[.slice A1 15 c1,.int .i64 14] 24)))
 have HB1:=Lib.hid (show Calls Tryz.prog 16 #[.agg #[.slice A1 15 c1,.int .i64 14]] (w1.alloc (.cells #[.slice A1 15 c1,.int .i64 14] 24)) (fun e w'=>∃v,e = .returned (.tuple #[v,.int .i64 0])∧GrP [⟨1,13,0,[3],-1⟩,⟨2,13,0,[],-1⟩,⟨3,13,0,[],-1⟩,⟨4,2,0,[5],-1⟩,⟨4,8,0,[1],-1⟩,⟨4,11,0,[4,1],-1⟩] [13] (w1.alloc (.cells #[.slice A1 15 c1,.int .i64 14] 24)) v w')from by
  have t:=build_yes ((ttf hN1).below (heap1 w1 (.cells #[.slice A1 15 c1,.int .i64 14] 24))) c1 14 (by unfold okT;rw[fx_chk];rfl)
  rw[fx_rs,fx_gr,fx_pr]at t
  exact t)
 have HX1:=Lib.hid (Bx.new w1 24 [.slice A1 15 c1,.int .i64 14])
 clear hb1 hN1 H1
 obtain⟨U1,hU1⟩:∃U1,w1.alloc (.cells #[.slice A1 15 c1,.int .i64 14] 24)=U1:=⟨_,rfl⟩
 rw[hU1]at HA1 HB1 HX1
 have a0:=(HX1.out.cell 0).trans rfl
 have a1:=(HX1.out.cell 1).trans rfl
 go_wp2_with (go_at_call 16;refine HB1.out.mono ?_)
 rintro e w2 ⟨v,rfl,V,U,base,rfl,hb2,hbase,hN,hO⟩
 obtain⟨gb,cap,hV,hgb,hc1,hc2,hGR⟩:=hN.gr (by decide)
 obtain⟨UA,uc,hU⟩:=own_slice hO
 subst hV
 subst hU
 have hg3:=hGR.below (heap1 w2 (.cells #[.slice (some ⟨gb,0,none⟩) 6 cap,.slice UA 1 uc] 30))
 have HX3:=Lib.hid (Bx.new w2 30 [.slice (some ⟨gb,0,none⟩) 6 cap,.slice UA 1 uc])
 have HA3:=Lib.hid (bt (bt HA1.out hb2) (heap1 w2 (.cells #[.slice (some ⟨gb,0,none⟩) 6 cap,.slice UA 1 uc] 30)))
 obtain⟨W3,hW3⟩:∃W3,w2.alloc (.cells #[.slice (some ⟨gb,0,none⟩) 6 cap,.slice UA 1 uc] 30)=W3:=⟨_,rfl⟩
 have hW3':w2.alloc (.cells #[.slice (some ⟨gb,0,none⟩) ([⟨1,13,0,[3],-1⟩,⟨2,13,0,[],-1⟩,⟨3,13,0,[],-1⟩,⟨4,2,0,[5],-1⟩,⟨4,8,0,[1],-1⟩,⟨4,11,0,[4,1],-1⟩]:List Gn).length cap,.slice UA ([13]:List Int).length uc] 30)=W3:=hW3
 rw[hW3]at hg3 HX3 HA3
 have HG3:=Lib.hid hg3
 obtain⟨cs,hbx,-,hcc⟩:=hg3
 obtain⟨-,-,-,-,K0,k0,e0,d0⟩:=hcc 0 (by decide)
 obtain⟨-,-,-,-,K1,k1,e1,-⟩:=hcc 1 (by decide)
 obtain⟨-,-,-,-,K2,k2,e2,-⟩:=hcc 2 (by decide)
 obtain⟨-,-,-,-,K3,k3,e3,d3⟩:=hcc 3 (by decide)
 obtain⟨-,-,-,-,K4,k4,e4,d4⟩:=hcc 4 (by decide)
 obtain⟨-,-,-,-,K5,k5,e5,d5⟩:=hcc 5 (by decide)
 have x0:W3.cell? ⟨gb,3,none⟩=some (.slice K0 1 k0):=(hbx.cell 3).trans e0
 have x1:W3.cell? ⟨gb,8,none⟩=some (.slice K1 0 k1):=(hbx.cell 8).trans e1
 have x2:W3.cell? ⟨gb,13,none⟩=some (.slice K2 0 k2):=(hbx.cell 13).trans e2
 have x3:W3.cell? ⟨gb,18,none⟩=some (.slice K3 1 k3):=(hbx.cell 18).trans e3
 have x4:W3.cell? ⟨gb,23,none⟩=some (.slice K4 1 k4):=(hbx.cell 23).trans e4
 have x5:W3.cell? ⟨gb,28,none⟩=some (.slice K5 2 k5):=(hbx.cell 28).trans e5
 obtain⟨b0,o0,rfl,-,q0⟩:=d0.ints (by decide)
 obtain⟨b3,o3,rfl,-,q3⟩:=d3.ints (by decide)
 obtain⟨b5,o5,rfl,-,q5⟩:=d5.ints (by decide)
 have y0:W3.cell? ⟨b0,o0,none⟩=some (.int .i64 3):=q0 0 (by decide)
 have y3:W3.cell? ⟨b3,o3,none⟩=some (.int .i64 5):=q3 0 (by decide)
 have y5:W3.cell? ⟨b5,o5,none⟩=some (.int .i64 4):=q5 0 (by decide)
 have y6:W3.cell? ⟨b5,o5+1,none⟩=some (.int .i64 1):=q5 1 (by decide)
 have HI4:=Lib.hid (show Ints W3 K4 [1]from d4.ints)
 have t0:=(HX3.out.cell 0).trans rfl
 have t1:=(HX3.out.cell 1).trans rfl
 clear hb2 hbase hN hO hc1 hc2 hGR hbx hcc e0 e1 e2 e3 e4 e5 d0 d3 d4 d5 q0 q3 q5 a0 a1 hU1 HB1 HX1 HA1
 have HS:=Lib.hid (fun(W:World) (q:Below W3.heap.size W3 W) (b:Nat) (h:Ints W (some ⟨b,0,none⟩) [1])=>sameInts_any (HI4.out.below q) h (by decide) (by decide) k4 1)
 have HEn:=Lib.hid (fun(W:World) (q:Below W3.heap.size W3 W)=>show Calls Tryz.prog 21 #[.agg #[.slice (some ⟨gb,0,none⟩) 6 cap,.slice UA 1 uc],.int .i64 0] W (VPost (.int .i64 0) W)from entry_any (HG3.out.below q) (by decide) cap UA 1 uc 0)
 have HEx:=Lib.hid (fun(W:World) (q:Below W3.heap.size W3 W)=>show Calls Tryz.prog 23 #[.agg #[.slice (some ⟨gb,0,none⟩) 6 cap,.slice UA 1 uc],.int .i64 0] W (VPost (.int .i64 1) W)from exit_any (HG3.out.below q) (by decide) cap UA 1 uc 0)
 have HFa:=Lib.hid (fun(W:World) (q:Below W3.heap.size W3 W)=>show Calls Tryz.prog 24 #[.agg #[.slice (some ⟨gb,0,none⟩) 6 cap,.slice UA 1 uc],.int .i64 0] W (VPost (.int .i64 2) W)from fail_any (HG3.out.below q) (by decide) cap UA 1 uc 0)
 have HALL:=Lib.hid (fun(W:World) (q:Below W3.heap.size W3 W)=>show W.cell? ⟨w2.heap.size,0,none⟩=some (.slice (some ⟨gb,0,none⟩) 6 cap)∧W.cell? ⟨w2.heap.size,1,none⟩=some (.slice UA 1 uc)∧W.cell? ⟨gb,8,none⟩=some (.slice K1 0 k1)∧W.cell? ⟨gb,13,none⟩=some (.slice K2 0 k2)∧W.cell? ⟨gb,23,none⟩=some (.slice K4 1 k4) from
  ⟨((HX3.out.below q HX3.out.lt).cell 0).trans rfl,((HX3.out.below q HX3.out.lt).cell 1).trans rfl,(q.cell (p:=⟨gb,8,none⟩) HG3.out.lt).trans x1,(q.cell (p:=⟨gb,13,none⟩) HG3.out.lt).trans x2,(q.cell (p:=⟨gb,23,none⟩) HG3.out.lt).trans x4⟩)
 go_upto_region 6 with(fail)
 go_quiet (fail)
 go_upto_region 8 with(fail)
 go_quiet (fail)
 go_upto_region 12 with(fail)
 clear t0 t1 x0 x1 x2 x3 x4 x5 y0 y3 y5 y6
 generalize hW5:W3.drewN _=W5
 have HB5:=Lib.hid (show Below W3.heap.size W3 W5 by rw[← hW5];exact Tk.below_drewN (Below.refl _ _) _)
 have HS5:=Lib.hid (HS.out (W5.alloc (.cells #[.int .i64 1] 3)) (bt HB5.out (heap1 _ _)) W5.heap.size (kd_newF W5 (fun _=>False) [1] (fun _ h=>h.elim)).ints)
 obtain⟨t0,t1,x1,x2,x4⟩:=HALL.out _ HB5.out
 have HBS:=Lib.hid (bt HB5.out (heap1 W5 (.cells #[.int .i64 1] 3)))
 clear hW5 hW3' hW3
 go_wp2_with (first|(go_at_call 18;refine HS5.out.mono ?_;rintro e w6 ⟨rfl,hb6⟩;have HB6:=Lib.hid (bt HBS.out hb6);clear t0 t1 x1 x2 x4;obtain⟨t0,t1,x1,x2,x4⟩:=HALL.out _ HB6.out;clear hb6) |(go_at_call 21;refine(HEn.out _ HB6.out).mono ?_;rintro e w7 ⟨rfl,hb7⟩;have HB7:=Lib.hid (bt HB6.out hb7);clear t0 t1 x1 x2 x4;obtain⟨t0,t1,x1,x2,x4⟩:=HALL.out _ HB7.out;clear hb7) |(go_at_call 23;refine(HEx.out _ HB7.out).mono ?_;rintro e w8 ⟨rfl,hb8⟩;have HB8:=Lib.hid (bt HB7.out hb8);clear t0 t1 x1 x2 x4;obtain⟨t0,t1,x1,x2,x4⟩:=HALL.out _ HB8.out;clear hb8) |(go_at_call 24;refine(HFa.out _ HB8.out).mono ?_;rintro e w9 ⟨rfl,hb9⟩;have HB9:=Lib.hid (bt HB8.out hb9);clear hb9))
 go_ret
 exact⟨rfl,bt HA3.out HB9.out⟩
end Go.Proofs.YtedkgofehbecmaaGreatDoor
