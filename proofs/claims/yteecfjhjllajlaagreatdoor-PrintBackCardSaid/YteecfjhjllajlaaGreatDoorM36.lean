/- PROVED: Ys Yt Yf Rc Yu Zm Bt Bu Bv. No more condition. -/
import Derived.Test.YteecfjhjllajlaaGreatDoorM35
import Derived.Test.YteecfjhjllajlaaGreatDoorM34
import Derived.Test.YteecfjhjllajlaaGreatDoorM33
set_option maxHeartbeats 4000000
set_option maxRecDepth 100000
namespace Go.Proofs.YteecfjhjllajlaaGreatDoor
open Go.Lib (hid)
open Go Go.RowKit
section
open Tr (Bx aa bt eF Ints dP aM bU iJ lJ dpt tu)
theorem O5 {l:List Tr.Nd}{r:Int}{j:Nat}(hj:j<l.length)(h:EA l[j].kd l[j].n l[j].tx.data.toList l[j].ks.length=false):exB l r=false:=by
 cases he:exB l r with
 |false=>rfl
 |true=>have:=J2 he _ (List.getElem_mem hj);rw[h]at this;cases this
theorem L9 {l:List Tr.Nd}{r:Int}(hs:iJ l r)(hd:dpt l r<=40)(h:∀j (hj:j<l.length),EA l[j].kd l[j].n l[j].tx.data.toList l[j].ks.length=true):exB l r=true:=by
 unfold exB;rw[rf.2 hs,decide_eq_true hd,Bool.true_and,Bool.true_and,List.all_eq_true];intro x hx;obtain⟨j,hj,rfl⟩:=List.getElem_of_mem hx;exact h j hj
theorem L_ {l:List Tr.Nd}{r:Int}(h:dpt l r=0\/40<dpt l r):exB l r=false:=by
 cases he:exB l r with
 |false=>rfl
 |true=>
  have h1:=FW he;have:=Tr.Cx h1.snd;have:=h1.dep;omega
theorem Bw (A:Option Addr)(n c:Nat)(l:List Tr.Nd)(r:Int)(w:World)(h:Ah w A n l)(hk3:∀x ∈ l,x.ks.length<=3000):Calls Tryz.prog 65 #[.agg #[.slice A n c,.int .i64 r]] w (dP (exB l r) w):=by
 have hn:=h.len;subst hn;have hb0:=aa w (.cells #[.slice A l.length c,.int .i64 r] 25);have HD:=hid (Tr.rZ A c l.length l r _ (h.nds.below hb0) rfl h.kids);have HX:=hid (Bx.new w 25 [.slice A l.length c,.int .i64 r]);have HB0:=hid hb0;have H:=hid h;have HK3:=hid hk3;clear hk3;obtain⟨d,hd⟩:∃d,d=dpt l r:=⟨_,rfl⟩;rw[<- hd]at HD;by_cases hd0:d=0\/40<d
 ·have he:=L_ (hd▸hd0);rw[he];clear he h hd hb0 H;go_enter Tryz.func65,Tryz.ntmps65
  rcases hd0 with rfl |hd0
  ·go_wp2_with (go_at_call 31;refine HD.out.mono ?_);rintro e w1 ⟨rfl,hb1⟩;have HB1:=hid (bt HB0.out hb1);clear hb1;go_wp2
   go_ret
   exact⟨rfl,HB1.out⟩
  ·have hdz:(40:Int)<(d:Int):=by omega
   have hdn:¬(d:Int)=0:=by omega
   go_wp2_with (go_at_call 31;refine HD.out.mono ?_);rintro e w1 ⟨rfl,hb1⟩;have HB1:=hid (bt HB0.out hb1);clear hb1;go_wp2
   go_ret
   exact⟨rfl,HB1.out⟩
 ·have hs:iJ l r:=by
   by_cases hs:iJ l r
   ·exact hs
   ·exact absurd (Or.inl (hd.trans (Tr.rY hs))) hd0
  have hd4:dpt l r<=40:=by omega
  have HS:=hid (And.intro hs hd4);have hl4:=(kw hs).2.1;have hdz:¬(40:Int)<(d:Int):=by omega
  have hdn:¬(d:Int)=0:=by omega
  have hdp:¬d=0:=by omega
  have hq0:((d:Int)==0)=false:=by rw[beq_eq_false_iff_ne];exact hdn
  have hq1:decide ((40:Int)<(d:Int))=false:=decide_eq_false hdz;clear h hd hb0 hs hd4 hd0;generalize hex:exB l r=ex at *
  have HEX:=hid hex;clear hex;obtain⟨m,hm⟩:∃m,m=l.length:=⟨_,rfl⟩;rw[<- hm]at HX HD HB0 H hl4 |-;have HM:=hid hm;clear hm;go_enter Tryz.func65,Tryz.ntmps65
  go_wp2_with (go_at_call 31;refine HD.out.mono ?_);rintro e w1 ⟨rfl,hb1⟩;have HB1:=hid (bt HB0.out hb1);have hx1:=HX.out.below hb1 (by rw[World.size_alloc];omega);have HX1:=hid hx1;have e0:=(hx1.cell 0).trans rfl;have e1:=(hx1.cell 1).trans rfl;clear hb1 hx1;go_wp2;clear e0 e1
  go_loopg [5,17] m (λg _ a17 wr=>∃i:Nat,a17=.int .i64 (i:Int)/\i<=m/\g=m-i/\(∀j (hj:j<l.length),j<i->EA l[j].kd l[j].n l[j].tx.data.toList l[j].ks.length=true)/\Below w.heap.size w wr)
  case atStart=>exact⟨0,rfl,Nat.zero_le _,rfl,λj _ hj=>absurd hj (Nat.not_lt_zero j),HB1.out⟩
  case round=>
   obtain⟨i,rfl,him,rfl,hall,hb⟩:=hrel;have HALL:=hid hall;have HB2:=hid hb;clear hall;by_cases hlt:i<m
   ·have hlz:(i:Int)<(m:Int):=by omega
    have hil:i<l.length:=by rw[<- HM.out];exact hlt
    obtain⟨bA,off,K,cK,rfl,hltA,c0,c1,c2,c3,c4,_⟩:=aZ (H.out.below hb).nds (Below.refl _ _) i hil;have hSX:=vG l[i].kd l[i].n l[i].pl l[i].tx K l[i].ks.length cK (wr.alloc (.cells #[.int .i64 l[i].kd,.int .i64 l[i].n,.int .i64 l[i].pl,.string l[i].tx,.slice K l[i].ks.length cK] 37)) (HK3.out _ (List.getElem_mem hil)) (H.out.text _ (List.getElem_mem hil)) (H.out.num _ (List.getElem_mem hil));obtain⟨q,hq⟩:∃q,q=EA l[i].kd l[i].n l[i].tx.data.toList l[i].ks.length:=⟨_,rfl⟩;rw[<- hq]at hSX;have HQ:=hid hq.symm;obtain⟨kd,hkd⟩:∃kd,kd=l[i].kd:=⟨_,rfl⟩;obtain⟨nn,hnn⟩:∃nn,nn=l[i].n:=⟨_,rfl⟩;obtain⟨pl,hpl⟩:∃pl,pl=l[i].pl:=⟨_,rfl⟩;obtain⟨tx,htx⟩:∃tx,tx=l[i].tx:=⟨_,rfl⟩;obtain⟨nk,hnk⟩:∃nk,nk=l[i].ks.length:=⟨_,rfl⟩;rw[<- hkd]at c0 hSX;rw[<- hnn]at c1 hSX;rw[<- hpl]at c2 hSX;rw[<- htx]at c3 hSX;rw[<- hnk]at c4 hSX;have HSX:=hid hSX;clear hSX hq hb hkd hnn hpl htx hnk;cases q with
    |false=>
     go_wp2_with (go_at_call 122;refine HSX.out.mono ?_);rintro e w3 ⟨rfl,hb3⟩;have HB3:=hid (bt HB2.out (bt (aa _ _) hb3));clear hb3 c0 c1 c2 c3 c4;go_wp2
     go_ret
     have hxx:=HEX.out.symm.trans (O5 hil HQ.out);subst hxx;exact⟨rfl,HB3.out⟩
    |true=>
     go_wp2_with (go_at_call 122;refine HSX.out.mono ?_);rintro e w3 ⟨rfl,hb3⟩;have HB3:=hid (bt HB2.out (bt (aa _ _) hb3));clear hb3 c0 c1 c2 c3 c4;go_wp2
     go_roundg (m-(i+1))
     case measure=>go_light;omega
     case rel=>
      go_light
      exact⟨i+1,by go_num,by omega,rfl,λj hj hj2=>by
       by_cases e:j<i
       ·exact HALL.out j hj e
       ·obtain rfl:j=i:=by omega
        exact HQ.out,HB3.out⟩
   ·obtain rfl:i=m:=by omega
    have hlz:¬(i:Int)<(i:Int):=by omega
    have he:=L9 HS.out.1 HS.out.2 (λj hj=>HALL.out j hj (by rw[HM.out];exact hj));have HE:=hid (HEX.out.symm.trans he);clear he hb;go_wp2
    go_ret
    have hxx:=HE.out;subst hxx;exact⟨rfl,HB2.out⟩
end
section
open Tr (Bx aa bt eF Ints dP aM bU iJ lJ dpt)
theorem vP (A:Option Addr)(n c:Nat)(l:List Tr.Nd)(r:Int)(w:World)(h:Ah w A n l)(hk3:∀x ∈ l,x.ks.length<=3000):Calls Tryz.prog 23 #[.agg #[.slice A n c,.int .i64 r]] w (bU (.string (mK (uJ l r))) w):=by
 have hn:=h.len;subst hn;have hb0:=aa w (.cells #[.slice A l.length c,.int .i64 r] 25);have HR:=hid (Bw A l.length c l r _ (h.below hb0) hk3);have HX:=hid (Bx.new w 25 [.slice A l.length c,.int .i64 r]);have HB0:=hid hb0;have H:=hid h;cases hr:exB l r with
 |false=>
  have e:uJ l r=[]:=by unfold uJ;rw[hr];rfl
  rw[e];rw[hr]at HR;clear e hr hb0 h hk3;go_enter Tryz.func23,Tryz.ntmps23
  go_wp2_with (go_at_call 65;refine HR.out.mono ?_);rintro e w1 ⟨rfl,hb1⟩;have HB1:=hid (bt HB0.out hb1);clear hb1;go_wp2
  go_ret
  exact⟨rfl,HB1.out⟩
 |true=>
  have hok:=FW hr;have e:uJ l r=bF l l.length r:=by unfold uJ;rw[hr];rfl
  rw[e];rw[hr]at HR;obtain⟨hl1,hl2,hr1⟩:=kw hok.snd;have hrn:r=((l.length-1:Nat):Int):=by omega
  have hex:I9 l:=FK (jF hok.snd) hok.sh h.num;obtain⟨S,hS⟩:=yg hok.snd;have hroot:Tr.aI (ag l ((l.length-1:Nat):Int)).kd=true:=by
   rw[aT (by omega)];exact hok.exp _ (List.getElem_mem _)
  have hlen:(bF l l.length ((l.length-1:Nat):Int)).length<=256000:=by
   have h1:=xM hok.sh hex hS l.length (l.length-1) (by omega);have h2:=hS.top (l.length-1) (by omega);omega
  have hne:bF l l.length ((l.length-1:Nat):Int)≠[]:=by
   obtain⟨q,hq⟩:∃q,l.length=q+1:=⟨l.length-1,by omega⟩;rw[hq]at hroot |-;exact Nt hok.sh (by omega) hroot
  have HC:=hid (show∀w2,Below w.heap.size w w2->Calls Tryz.prog 60 #[.agg #[.slice A l.length c,.int .i64 r],.int .i64 r,.func (.func 66) #[] #[]] w2 λe w'=>e=.returned (.string (mK (bF l l.length r)))/\Below w2.heap.size w2 w' from λw2 q=>by
   have hin:=(h.below q).below (aa w2 (.cells #[.slice A l.length c,.int .i64 r] 25))
   have hpx:=hin.px hok.snd hex
   rw[hrn]
   refine xE A l.length c _ _ _ w2 _ rfl hne λw' q' hp' =>?_
   rw[hrn]at hpx
   have:=xD c _ hpx l.length (l.length-1) 0 [] w' (by omega) (by omega) hroot q' hp' (by show 0+_<=_;omega)
   rw[List.nil_append]at this
   exact this)
  clear hne hlen hroot hS hex hrn hr1 hl1 hl2 e hok hr hb0 h hk3;generalize bF l l.length r=y at *
  have e0:=(HX.out.cell 0).trans rfl;have e1:=(HX.out.cell 1).trans rfl;go_enter Tryz.func23,Tryz.ntmps23
  go_wp2_with (go_at_call 65;refine HR.out.mono ?_);rintro e w1 ⟨rfl,hb1⟩;have HB1:=hid (bt HB0.out hb1);have hx1:=HX.out.below hb1 (by rw[World.size_alloc];omega);clear e0 e1;have e0:=(hx1.cell 0).trans rfl;have e1:=(hx1.cell 1).trans rfl;clear hb1 hx1;go_wp2_with (go_at_call 60;refine(HC.out w1 HB1.out).mono ?_);rintro e w2 ⟨rfl,hb2⟩;have HB2:=hid (bt HB1.out hb2);clear hb2 e0 e1;go_wp2
  go_ret
  exact⟨rfl,HB2.out⟩
end
section
open Go
open Tr (ig iT eP bz aI dS eY kV iU nth iJ dpt)
theorem Bz {P:Int->Int->Int->List UInt8->List Int->Prop}(hP:∀kd n pl tx l,P kd n pl tx l->bz kd l=true):∀g:Wd,g.all P->(∀k ∈ g.kds,aI k=true)->g.all λkd n pl tx l=>aI kd=true/\P kd n pl tx l
 | .nil,_,_=>True.intro
 | .snoc f kd n pl tx ks,h,hk=>by
  have h1:aI kd=true:=hk kd (by simp[Wd.kds]);have h2:=(Cn h1 (hP _ _ _ _ _ h.2.2)).1;exact⟨Bz hP f h.1 λk hk'=>hk k (by simp[Wd.kds,hk']),Bz hP ks h.2.1 h2,h1,h.2.2⟩
structure RO (nd:List Nd):Prop where
 ok:JY (nd.map dI) ((nd.length:Int)-1)
 pos:1<=nd.length
 few:nd.length<=4000
 kids:∀x ∈ nd.map dI,x.ks.length<=2
 text:∀x ∈ nd.map dI,x.tx.size<=20
 num:∀x ∈ nd.map dI,x.n<=9223372036854775807
theorem BA {l:List UInt8}{us:List Tk.Tok}{nd:List Nd}{k:Nat}(hc:Tk.iF l 0=.ok us)(h:gW pq l=.good nd k):RO nd:=by
 rcases(yS (Gv hc)).cases with⟨v,s',q,_⟩ |⟨p',e',q,_,_⟩
 case inr=>rw[zJ hc q]at h;cases h
 rw[oo hc q]at h;split at h
 ·cases h
 split at h
 ·cases h
 rename_i h4 h5;injection h with h1 h2
 subst h1;obtain⟨g,hnd,hv,hall,e,hke,hee⟩:=Ox (zR hc).1 q;have hall2:=Bz (λkd n pl tx l r=>r.2.2.2.2.1) g hall (λk hk=>by rw[hke]at hk;rw[List.mem_singleton.1 hk];exact hee);have hmem:=Wd.all_mem 0 hall2;rw[<- hnd]at hmem;have hsn:iJ (s'.nd.map dI) ((s'.nd.length:Int)-1)/\1<=s'.nd.length:=by
  cases g with
  |nil=>cases hke
  |snoc f kd n pl tx ks=>
   cases f with
   |nil=>
    have:=Il (f :=.nil) (kd:=kd) (n:=n) (pl:=pl) (tx:=tx) (ks:=ks) rfl (by rw[<- hnd];omega);rw[<- hnd]at this;exact⟨this,by rw[hnd];simp[Wd.fl]⟩
   |snoc f2 kd2 n2 pl2 ny ks2=>
    have:=congrArg List.length hke;simp[Wd.kds]at this
 have hexp:∀x ∈ s'.nd.map dI,aI x.kd=true:=λx hx=>by
  obtain⟨y,hy,rfl⟩:=List.mem_map.1 hx;obtain⟨l',r,_⟩:=hmem y hy;exact r.1
 refine⟨⟨hsn.1,by omega,hexp,?_⟩,hsn.2,by omega,λx hx =>?_,λx hx =>?_,λx hx =>?_⟩
 ·have:=(CK (P:=λkd n pl tx l=>aI kd=true/\Pk (us.map vL) kd n pl tx l) (λkd n pl tx l r=>⟨r.2.1,r.2.2.1,r.2.2.2.1,r.2.2.2.2.1.1,r.2.2.2.2.2.1⟩) g [] [] hall2).2;simp only[List.nil_append,List.append_nil,List.length_nil,<- hnd]at this;unfold iU;rw[List.all_eq_true];intro x hx;obtain⟨y,hy,rfl⟩:=List.mem_map.1 hx;exact this y hy
 ·obtain⟨y,hy,rfl⟩:=List.mem_map.1 hx;obtain⟨l',r,hr⟩:=hmem y hy;have:=(Cn r.1 r.2.2.2.2.2.1).2;show y.ks.length<=2;omega
 ·obtain⟨y,hy,rfl⟩:=List.mem_map.1 hx;obtain⟨l',r,_⟩:=hmem y hy;have:=zP r.2.2.2.1;show(bs y.tx).size<=_;simp[bs,ByteArray.size];omega
 ·obtain⟨y,hy,rfl⟩:=List.mem_map.1 hx;obtain⟨l',r,_⟩:=hmem y hy;exact r.2.2.2.2.1.2
end
section
open Tr (Bx aa bt au aP ax aA)
def I4 (nd:List Nd)(w:World)(e:Ending)(w':World):Prop:=∃A c,e=.returned (.tuple #[.agg #[.slice A nd.length c,.int .i64 ((nd.length:Int)-1)],.int .i64 0,.int .i64 0])/\Below w.heap.size w w'/\kz w.heap.size w' A (nd.map dI)
theorem sO {a:uQ}{nd:List Nd}{k:Nat}{w:World}{en:Ending}{w':World}(h:kP a w en w')(ha:a=.good nd k):I4 nd w en w':=by
 subst ha;obtain⟨A,n,c,r,m,q,er,rfl,hb,rfl,rfl,rfl,rfl,rfl,hN⟩:=h;exact⟨A,c,rfl,hb,hN⟩
end
section
open Tr (Bx aa bt eF bU)
def Q4:List UInt8:=[40,49,43,50,41,42,45,120]
def Q5:List UInt8:=[112,114,111,99,32,102,40,41,123,105,102,32,98,123,125,101,108,115,101,123,120,61,49,59,125,125]
def Q6:List Tk.Tok:=[⟨3,0,0,[40]⟩,⟨2,1,1,[49]⟩,⟨3,0,2,[43]⟩,⟨2,2,3,[50]⟩,⟨3,0,4,[41]⟩,⟨3,0,5,[42]⟩,⟨3,0,6,[45]⟩,⟨1,0,7,[120]⟩,⟨5,0,8,[]⟩]
def Q7:List Tk.Tok:=[⟨4,0,0,[112,114,111,99]⟩,⟨1,0,5,[102]⟩,⟨3,0,6,[40]⟩,⟨3,0,7,[41]⟩,⟨3,0,8,[123]⟩,⟨4,0,9,[105,102]⟩,⟨1,0,12,[98]⟩,⟨3,0,13,[123]⟩,⟨3,0,14,[125]⟩,⟨4,0,15,[101,108,115,101]⟩,⟨3,0,19,[123]⟩,⟨1,0,20,[120]⟩,⟨3,0,21,[61]⟩,⟨2,1,22,[49]⟩,⟨3,0,23,[59]⟩,⟨3,0,24,[125]⟩,⟨3,0,25,[125]⟩,⟨5,0,26,[]⟩]
def qy:List Nd:=[⟨20,1,1,[],[]⟩,⟨20,2,3,[],[]⟩,⟨27,0,2,[43],[0,1]⟩,⟨22,0,7,[120],[]⟩,⟨26,0,6,[45],[3]⟩,⟨27,0,5,[42],[2,4]⟩]
def o9:List Nd:=[⟨22,0,12,[98],[]⟩,⟨6,0,13,[],[]⟩,⟨20,1,22,[],[]⟩,⟨7,0,20,[120],[2]⟩,⟨6,0,19,[],[3]⟩,⟨11,0,9,[],[0,1,4]⟩,⟨6,0,8,[],[5]⟩,⟨3,0,0,[102],[6]⟩,⟨1,0,0,[],[7]⟩]
theorem MC:Tk.iF Q4 0=.ok Q6:=by decide +kernel
theorem ME:Tk.iF Q5 0=.ok Q7:=by decide +kernel
theorem Q8:pq (Q6.map vL)=.ok [5] ⟨8,qy,0,1⟩:=by decide +kernel
theorem Q9:jd (Q7.map vL)=.ok [8] ⟨17,o9,0,2⟩:=by decide +kernel
theorem Q_:Tr.dpt (qy.map dI) 5<=40:=by
 by_cases h:Tr.iJ (qy.map dI) 5
 ·rw[Tr.ko h];have e:Tr.dpL (qy.map dI) (qy.map dI).length ((qy.map dI).length-1)=3:=by decide +kernel
  rw[e];decide
 ·rw[Tr.rY h];decide
theorem Ra:Tr.dpt (o9.map dI) 8<=40:=by
 by_cases h:Tr.iJ (o9.map dI) 8
 ·rw[Tr.ko h];have e:Tr.dpL (o9.map dI) (o9.map dI).length ((o9.map dI).length-1)=7:=by decide +kernel
  rw[e];decide
 ·rw[Tr.rY h];decide
theorem MF:gW pq Q4=.good qy 1:=by
 rw[oo MC Q8,if_neg (by decide),if_neg (by have:=Q_;show¬40<Tr.dpt (qy.map dI) 5;omega)]
theorem MG:gW jd Q5=.good o9 2:=by
 rw[oo ME Q9,if_neg (by decide),if_neg (by have:=Ra;show¬40<Tr.dpt (o9.map dI) 8;omega)]
theorem I5 {w:World}{A:Option Addr}{nd:List Nd}(hN:eF w A (nd.map dI))(hx:RO nd)(hT:Tb w):Ah w A nd.length (nd.map dI):=by
 have hc:o7 w A (nd.map dI):=λp bA off K m c hp _ _ hk _=>by
  have:=hx.ok.exp (nd.map dI)[p] (List.getElem_mem hp);rw[aT hp]at hk;rw[hk]at this;cases this
 exact⟨hN,by rw[List.length_map],λx h=>by have:=hx.kids x h;omega,λx h=>by have:=hx.text x h;omega,hx.num,hc,hT⟩
theorem Ex (A:Option Addr)(c:Nat)(w:World)(hN:eF w A (qy.map dI))(hT:Tb w):Calls Tryz.prog 23 #[.agg #[.slice A 6 c,.int .i64 5]] w (bU (.string ⟨#[40,49,32,43,32,50,41,32,42,32,45,120]⟩) w):=by
 have hx:=BA MC MF;have h1:=vP A 6 c (qy.map dI) 5 w (I5 hN hx hT) (λx h=>by have:=hx.kids x h;omega);have e:uJ (qy.map dI) 5=[40,49,32,43,32,50,41,32,42,32,45,120]:=by
  unfold uJ;have hb:exB (qy.map dI) 5=true:=hx.ok.exB;rw[hb];show bF (qy.map dI) (qy.map dI).length 5=_;decide +kernel
 rw[e]at h1;exact h1
theorem yE (A:Option Addr)(c:Nat)(w:World)(hN:eF w A (o9.map dI))(hT:Tb w):Calls Tryz.prog 21 #[.agg #[.slice A 9 c,.int .i64 8]] w (bU (.string ⟨#[112,114,111,99,32,102,40,41,32,123,10,32,32,105,102,32,98,32,123,10,32,32,125,32,101,108,115,101,32,123,10,32,32,32,32,120,32,61,32,49,59,10,32,32,125,10,125,10]⟩) w):=by
 have hx:=vk ME MG;have h13:∀p,p<9->(ag (o9.map dI) ((p:Nat):Int)).kd≠13:=by decide +kernel
 have h1:=jI A 9 c (o9.map dI) 8 w ⟨hN,rfl,hx.kids,hx.text,hx.num,λp bA off K m c hp _ _ hk _=>absurd hk (h13 p hp),hT⟩;have e:gz (o9.map dI) 8=[112,114,111,99,32,102,40,41,32,123,10,32,32,105,102,32,98,32,123,10,32,32,125,32,101,108,115,101,32,123,10,32,32,32,32,120,32,61,32,49,59,10,32,32,125,10,125,10]:=by
  unfold gz;have hb:Tr.lJ (o9.map dI) 8=true:=hx.right;rw[hb];show lq (o9.map dI) (o9.map dI).length 8=_;decide +kernel
 rw[e]at h1;exact h1
def R3 (w:World)(e:Ending)(w':World):Prop:=∃A c,e=.returned (.tuple #[.agg #[.slice A 6 c,.int .i64 5],.int .i64 0,.int .i64 0])/\Below w.heap.size w w'/\kz w.heap.size w' A (qy.map dI)
def R4 (w:World)(e:Ending)(w':World):Prop:=∃A c,e=.returned (.tuple #[.agg #[.slice A 9 c,.int .i64 8],.int .i64 0,.int .i64 0])/\Below w.heap.size w w'/\kz w.heap.size w' A (o9.map dI)
theorem BB (w:World)(hE:Tk.pO w)(hT:Tb w):Calls Tryz.prog 19 #[] w (bU (.bool true) w):=by
 have H1:=hid (show Calls Tryz.prog 29 #[.string ⟨#[40,49,43,50,41,42,45,120]⟩] w (R3 w) from(Hw _ w hE (by decide)).mono λ_ _ q=>sO q MF);have H2:=hid (λw' (q:Below w.heap.size w w')=>show Calls Tryz.prog 16 #[.string ⟨#[112,114,111,99,32,102,40,41,123,105,102,32,98,123,125,101,108,115,101,123,120,61,49,59,125,125]⟩] w' (R4 w') from(tq _ w' (hE.below q) (by decide)).mono λ_ _ q=>sO q MG);have HT:=hid hT;clear hE hT;go_enter Tryz.func19,Tryz.ntmps19
 go_wp2_with (go_at_call 29;refine H1.out.mono ?_);rintro e w1 ⟨A,c,rfl,hb1,hN⟩;have HA1:=hid (bt hb1 (aa w1 (.cells #[.slice A 6 c,.int .i64 5] 25)));have HN1:=hid (hN.nds.below (aa w1 (.cells #[.slice A 6 c,.int .i64 5] 25)));have HX1:=hid (Bx.new w1 25 [.slice A 6 c,.int .i64 5]);clear hb1 hN H1;go_wp2_with (go_at_call 16;refine(H2.out _ HA1.out).mono ?_);rintro e w2 ⟨A2,c2,rfl,hb2,hN⟩;have hs2:=hb2.size;rw[World.size_alloc]at hs2;have HB2:=hid (bt hb2 (aa w2 (.cells #[.slice A2 9 c2,.int .i64 8] 25)));have HN2:=hid (hN.nds.below (aa w2 (.cells #[.slice A2 9 c2,.int .i64 8] 25)));have HX2:=hid (Bx.new w2 25 [.slice A2 9 c2,.int .i64 8]);have HX12:=hid (HX1.out.below HB2.out HX1.out.lt);have HN12:=hid (HN1.out.below HB2.out);have HA2:=hid (bt HA1.out HB2.out);have HE1:=hid (Ex A c _ HN12.out (HT.out.below HA2.out));have e0:=(HX12.out.cell 0).trans rfl;have e1:=(HX12.out.cell 1).trans rfl;clear hb2 hN H2;go_wp2_with (go_at_call 23;refine HE1.out.mono ?_);rintro e w3 ⟨rfl,hb3⟩;have HA3:=hid (bt HA2.out hb3);have hx2:=HX2.out.below hb3 HX2.out.lt;have HE2:=hid (yE A2 c2 w3 (HN2.out.below hb3) (HT.out.below HA3.out));have f0:=(hx2.cell 0).trans rfl;have f1:=(hx2.cell 1).trans rfl;clear hb3 hx2 e0 e1;go_wp2_with (go_at_call 21;refine HE2.out.mono ?_);rintro e w4 ⟨rfl,hb4⟩;have HA4:=hid (bt HA3.out hb4);clear hb4 f0 f1;go_wp2
 go_ret
 exact⟨rfl,HA4.out⟩
end
section
open Tr (Bx aa bt eF Ints dP aM bU iJ lJ dpt)
theorem I6 {l:List Tr.Nd}(r:Int)(hN:∀x ∈ l,x.n<=9223372036854775807)(hk:∀x ∈ l,x.ks.length<=4000):(gz l r).length<=2800000000:=by
 unfold gz;split
 ·rename_i hr;have hok:=wK hr;obtain⟨S,hS⟩:=yg hok.snd;obtain⟨h1,h2,h3⟩:=kw hok.snd;have hrn:r=((l.length-1:Nat):Int):=by omega
  have hroot:=hok.root;rw[hrn];exact zi hok.sh (FL (jF hok.snd) hok.sh hN hk) hS h2 _ _ (by omega) hroot
 ·exact Nat.zero_le _
theorem Ey {w:World}{A:Option Addr}{l:List Tr.Nd}(hN:eF w A l)(hnum:∀x ∈ l,x.n<=9223372036854775807)(hc:o7 w A l)(hT:Tb w)(h:IX l):Ah w A l.length l:=
 ⟨hN,rfl,λx hx=>by have:=(h.2 x hx).1;omega,λx hx=>by have:=(h.2 x hx).2;omega,hnum,hc,hT⟩
theorem Ma:(mK []).toList.isEmpty=true:=by rw[OZ];rfl
end
section
open Tr (Bx aa bt eF Ints dP aM bU iJ lJ dpt nth kD wU)
theorem kz.caps {B:Nat}{w:World}{A:Option Addr}{l:List Tr.Nd}(h:kz B w A l):o7 w A l:=λp bA off K m c hp hA hc _ h2=>by
 have:=h.room hp hA hc;omega
theorem bR.nd {l m:List Tr.Nd}(h:bR l m)(k:Int):(ag l k).kd=(ag m k).kd/\(ag l k).n=(ag m k).n/\(ag l k).tx=(ag m k).tx/\(ag l k).ks=(ag m k).ks:=by
 by_cases hk:k.toNat<l.length
 ·obtain⟨hj,e⟩:=h.at_ k.toNat hk;have e1:ag l k=l[k.toNat]:=by unfold ag;exact Tr.jr hk
  have e2:ag m k=m[k.toNat]:=by unfold ag;exact Tr.jr hj
  rw[e1,e2];exact e
 ·have hm:¬k.toNat<m.length:=by rw[<- h.len];exact hk
  have e1:ag l k=⟨0,0,0,⟨#[]⟩,[]⟩:=by unfold ag Tr.nth;simp[List.getD,List.getElem?_eq_none (Nat.le_of_not_lt hk)]
  have e2:ag m k=⟨0,0,0,⟨#[]⟩,[]⟩:=by unfold ag Tr.nth;simp[List.getD,List.getElem?_eq_none (Nat.le_of_not_lt hm)]
  rw[e1,e2];exact⟨rfl,rfl,rfl,rfl⟩
section
variable {l m:List Tr.Nd} (h:bR l m)
include h
theorem bR.kd (k:Int):(ag l k).kd=(ag m k).kd:=(h.nd k).1
theorem bR.n (k:Int):(ag l k).n=(ag m k).n:=(h.nd k).2.1
theorem bR.tx (k:Int):bu l k=bu m k:=by unfold bu;rw[(h.nd k).2.2.1]
theorem bR.kss (k:Int):(ag l k).ks=(ag m k).ks:=(h.nd k).2.2.2
theorem bR.kid (k:Int)(i:Nat):aL l k i=aL m k i:=by unfold aL;rw[h.kss]
theorem bR.ex:∀(f:Nat) (p:Int),bF l f p=bF m f p
 |0,p=>rfl
 |f+1,p=>by
  have ih:=λp=>bR.ex f p
  have iho:∀p,r9 l (bF l f) p=r9 m (bF m f) p:=λp=>by unfold r9;rw[h.kd,ih]
  rw[nU,nU];simp only[h.kd,h.n,h.tx,h.kid,ih,iho]
theorem bR.ln (f:Nat)(p:Int):eG l f p=eG m f p:=by
 have he:=funext λp=>h.ex f p
 unfold eG;simp only[h.kd,h.tx,h.kid,h.kss,he]
theorem bR.ty (p:Int):lS l p=lS m p:=by unfold lS;rw[h.tx,h.n]
theorem bR.var (d:Nat)(p:Int):ja l d p=ja m d p:=by unfold ja;rw[h.ty]
theorem bR.blk {st st':Nat->Int->List UInt8}(hs:∀d p,st d p=st' d p)(d:Nat)(p:Int)(ll:List Int):fI l st d p ll=fI m st' d p ll:=by
 have e:st=st':=funext λd=>funext λp=>hs d p
 have e2:ja l (d+1)=ja m (d+1):=funext λp=>h.var (d+1) p
 unfold fI;rw[e,e2,h.kss]
theorem bR.st (F:Nat):∀(f d:Nat) (p:Int),nC l F f d p=nC m F f d p
 |0,d,p=>rfl
 |f+1,d,p=>by
  have ih:∀d p ll,fI l (nC l F f) d p ll=fI m (nC m F f) d p ll:=λd p ll=>h.blk (λd p=>bR.st F f d p) d p ll
  rw[rq,rq];simp only[h.kd,h.tx,h.kid,h.kss,h.ln,ih]
theorem bR.prc (F:Nat)(p:Int):nG l F p=nG m F p:=by
 have e1:lS l=lS m:=funext λp=>h.ty p
 unfold nG;simp only[h.kd,h.tx,h.kss,h.n,e1,h.blk (λd p=>h.st F F d p)]
theorem bR.pgm (F:Nat)(p:Int):lq l F p=lq m F p:=by
 unfold lq;simp only[h.kss,h.kd,h.var,h.prc]
end
theorem O6 {l:List Tr.Nd}{r:Int}(hr:lJ l r=true)(hx:su l):∃b,lL l b (Tr.dpL l l.length)/\b (l.length-1)=0:=by
 have hok:=wK hr;obtain⟨b,h1,h2,h3,hS,h0⟩:=hok.snd;exact⟨b,⟨hS,hok.sh,hx,Tr.BF hS⟩,h0⟩
theorem BC {R:List Tok->Rs}{t:List UInt8}{us:List Tk.Tok}{v:List Int}{s:St}(hc:Tk.iF t 0=.ok us)(h:R (us.map vL)=.ok v s)(h4:s.nd.length<=4000)(hd:dpt (s.nd.map dI) ((s.nd.length:Int)-1)<=40):gW R t=.good s.nd s.mo:=by
 rw[oo hc h,if_neg (by omega),if_neg (by omega)]
theorem O7 (x:ByteArray):Tk.bs x.data.toList=x:=by
 apply ByteArray.ext;apply Array.toList_inj.1;simp[Tk.bs]
theorem BD {l:List Tr.Nd}{r:Int}(hr:lJ l r=true)(hx:su l):∃nd k,gW jd (gz l r)=.good nd k/\bR (nd.map dI) l/\(nd.length:Int)-1=r:=by
 have hok:=wK hr;obtain⟨b,hP,h0⟩:=O6 hr hx;obtain⟨h1,h2,h3⟩:=kw hok.snd;have hrn:r=((l.length-1:Nat):Int):=by omega
 have hroot:=hok.root;have hdep:Tr.dpL l l.length (l.length-1)<=40:=by
  have:=hok.dep
  rwa [Tr.ko hok.snd]at this
 have eT2:gz l r=lq l l.length ((l.length-1:Nat):Int):=by unfold gz;rw[hr,hrn];rfl
 have hlex:=OV (LM hP l.length (Nat.le_refl _) (p:=l.length-1) (by omega) hroot) trivial;rw[<- eT2]at hlex;obtain⟨us,hc,hus⟩:=Tk.Oz hlex;obtain⟨n,m,hrd⟩:=Em hP (Nat.le_refl _) h1 h0 hroot (by omega);have her:(us.map vL).map jJ=(vo l l.length ((l.length-1:Nat):Int)++[eT]).map jJ:=by
  rw[QK,hus,List.map_map];rfl
 have h5:=Lc her;rw[hrd]at h5;obtain⟨s',hs',hse⟩:=OA h5;have hnd:s'.nd.map Od=(l.map (O9 0)).map Od:=by
  have:=congrArg St.nd hse;exact this
 have hlen:s'.nd.length=l.length:=by have:=congrArg List.length hnd;simpa using this
 have hlike:bR (s'.nd.map dI) l:=by
  have e2:(s'.nd.map Od).map (λx=>(x.kd,x.n,Tk.bs x.tx,x.ks))=l.map (λx=>(x.kd,x.n,x.tx,x.ks)):=by
   rw[hnd,List.map_map,List.map_map];refine List.map_congr_left λx _ =>?_
   show(x.kd,x.n,Tk.bs x.tx.data.toList,x.ks.map (· + 0))=_;rw[O7];simp
  unfold bR;rw[<- e2,List.map_map,List.map_map];rfl
 have hdp:dpt (s'.nd.map dI) ((s'.nd.length:Int)-1)=dpt l r:=by rw[hlike.dpt,hlen,h3]
 refine⟨s'.nd,s'.mo,BC hc hs' (by omega) (by rw[hdp];exact hok.dep),hlike,by omega⟩
end
section
open Tr (Bx aa bt au aP ax aA bU dW)
theorem I7 (s:ByteArray)(w:World)(hs:20000<s.size):Calls Tryz.prog 99 #[.string s] w (bU (.tuple #[.slice none 0 0,.int .i64 0,.int .i64 7]) w):=by
 have hz:(20000:Int)<(s.size:Int):=by omega
 go_enter Tryz.func99,Tryz.ntmps99
 go_wp2;exact bodyPost_ret (v :=.tuple #[.slice none 0 0,.int .i64 0,.int .i64 7]) (by simp[results,Tryz.results99,go_sem]) rfl ⟨rfl,Below.refl _ _⟩
theorem Ez (s:ByteArray)(w:World)(hs:20000<s.size):Calls Tryz.prog 54 #[.string s,.func (.func 55) #[] #[]] w (jU (.bad 0 7) w):=by
 have hb0:Below w.heap.size w (w.alloc (.cells #[.slice none 0 0,.int .i64 0,.int .i64 0,.int .i64 0,.int .i64 0] 56)):=aa _ _;have HP:=hid (I7 s (w.alloc (.cells #[.slice none 0 0,.int .i64 0,.int .i64 0,.int .i64 0,.int .i64 0] 56)) hs);obtain⟨a,ha⟩:∃a,a=uQ.bad 0 7:=⟨_,rfl⟩;rw[<- ha];have HA:=hid ha;have HB0:=hid hb0;clear ha hs hb0;go_enter Tryz.func54,Tryz.ntmps54
 go_wp2_with (go_at_call 99;refine HP.out.mono ?_);rintro e w1 ⟨rfl,hb1⟩;have hB:=(Bx.new w 56 [.slice none 0 0,.int .i64 0,.int .i64 0,.int .i64 0,.int .i64 0]).below hb1 (Bx.new w 56 _).lt;have HB:=hid (And.intro hB (bt HB0.out hb1));clear hb1;have c0:=(hB.cell 0).trans rfl;have c1:=(hB.cell 1).trans rfl;have c2:=(hB.cell 2).trans rfl;have c3:=(hB.cell 3).trans rfl;have c4:=(hB.cell 4).trans rfl;have f0:=hB.frozen 0;have f1:=hB.frozen 1;have f2:=hB.frozen 2;have f3:=hB.frozen 3;have f4:=hB.frozen 4;clear hB;go_wp2;obtain⟨hE,hbE⟩:=DU HB.out.1 HB.out.2 (Nat.le_refl _) (.slice none 0 0) (.int .i64 0) (.int .i64 0) (.int .i64 (((0:Nat):Int))) (.int .i64 (((7:Nat):Int)));have z0:=(hE.cell 0).trans rfl;have z1:=(hE.cell 1).trans rfl;have z2:=(hE.cell 2).trans rfl;have z3:=(hE.cell 3).trans rfl;have z4:=(hE.cell 4).trans rfl;generalize ((((w1.setCell ⟨w.heap.size,0,none⟩ (.slice none 0 0)).setCell ⟨w.heap.size,1,none⟩ (.int .i64 0)).setCell ⟨w.heap.size,2,none⟩ (.int .i64 0)).setCell ⟨w.heap.size,3,none⟩ (.int .i64 (((0:Nat):Int)))).setCell ⟨w.heap.size,4,none⟩ (.int .i64 (((7:Nat):Int)))=W9 at *
 exact bodyPost_ret (v :=.agg #[.slice none 0 0,.int .i64 0,.int .i64 0,.int .i64 (((0:Nat):Int)),.int .i64 (((7:Nat):Int))]) (by simp[results,Tryz.f54,go_sem,z0,z1,z2,z3,z4]) rfl (og (p:=0) (er:=7) HA.out hbE)
theorem yF (s:ByteArray)(w:World)(hs:20000<s.size):Calls Tryz.prog 16 #[.string s] w (kP (.bad 0 7) w):=by
 have hb0:Below w.heap.size w (w.alloc (.cells #[.slice none 0 0,.int .i64 0] 25)):=aa _ _;have HC:=hid ((Ez s (w.alloc (.cells #[.slice none 0 0,.int .i64 0] 25)) hs).mono λ_ _ q=>q.g);generalize uQ.bad 0 7=a at *
 clear hs;go_enter Tryz.func16,Tryz.ntmps16
 go_wp2_with (go_at_call 54;refine HC.out.mono ?_);rintro e w1 ⟨A,n,c,r,m,p,er,rfl,hb1,hA⟩;obtain⟨W4,hW4⟩:∃W4,w1.alloc (.cells #[.slice A n c,.int .i64 r,.int .i64 m,.int .i64 p,.int .i64 er] 56)=W4:=⟨_,rfl⟩;have hb4:Below w1.heap.size w1 W4:=by rw[<- hW4];exact aa _ _
 have hR4:Bx W4 w1.heap.size 56 [.slice A n c,.int .i64 r,.int .i64 m,.int .i64 p,.int .i64 er]:=by rw[<- hW4];exact Bx.new w1 56 _
 have hT1:=(Bx.new w 25 [.slice none 0 0,.int .i64 0]).below hb1 (Bx.new w 25 _).lt;have hT4:=hT1.below hb4 hT1.lt;have hA4:=(hA.mono (B':=w.heap.size+1) (by rw[World.size_alloc];exact Nat.le_refl _)).fr (E:=λ_=>False) (Fr.of hb4) (λ_ q=>q.elim);have HX:=hid (And.intro (bt (bt hb0 hb1) hb4) (And.intro hR4 (And.intro hT4 (And.intro hA4 hT1.lt))));have HW4:=hid hW4;clear hb1 hA hb4 hR4 hT1 hT4 hA4 hW4 hb0
 go_upto_region 2 with(fail)
 rw[HW4.out];obtain⟨hb4,hR4,hT4,hA4,hlt⟩:=HX.out;obtain⟨W5,hW5⟩:∃W5:World,{W4 with drawn:=W4.drawn+1}=W5:=⟨_,rfl⟩;have hT5:Bx W5 w.heap.size 25 [.slice none 0 0,.int .i64 0]:=by rw[<- hW5];exact hT4
 have hS:Bx W5 w1.heap.size 56 [.slice A n c,.int .i64 r,.int .i64 m,.int .i64 p,.int .i64 er]/\∃u0 u1,Bx W5 w.heap.size 25 [u0,u1]:=⟨by rw[<- hW5];exact hR4,_,_,hT5⟩;have hb5:Below w.heap.size w W5:=by rw[<- hW5];exact dW hb4
 have hA5:mD a (w.heap.size+1) W5 A n c r m p er:=by rw[<- hW5];exact hA4.fr (E:=λ_=>False) (Fr.of (dW (Below.refl _ _))) (λ_ q=>q.elim)
 have hne:w1.heap.size≠w.heap.size:=by omega
 refine wp_region_held (S:=λw'=>Bx w' w1.heap.size 56 [.slice A n c,.int .i64 r,.int .i64 m,.int .i64 p,.int .i64 er]/\∃u0 u1,Bx w' w.heap.size 25 [u0,u1]) (by kernel_rfl) ?_;rw[hW5];clear hW5 hb4 hR4 hT4 hA4 HX HW4 HC;refine aG 0 (.pointer (some ⟨w1.heap.size,0,none⟩)) (by kernel_rfl) rfl rfl (λ_ _ _ h=>h) rfl (ay rfl rfl (lG _)) hS ?_;simp only[ap];refine aG 1 (.agg #[.slice A n c,.int .i64 r]) (by kernel_rfl) rfl rfl (λ_ _ _ h=>h) rfl (ak rfl rfl (λw' q=>qj ((q.1.cell 0).trans rfl) ((q.1.cell 1).trans rfl))) hS ?_;simp only[ap];refine aG 2 (.pointer (some ⟨w1.heap.size,3,none⟩)) (by kernel_rfl) rfl rfl (λ_ _ _ h=>h) rfl (ay rfl rfl (fU _)) hS ?_;simp only[ap];refine aG 3 (.pointer (some ⟨w1.heap.size,3,none⟩)) (by kernel_rfl) rfl rfl (λ_ _ _ h=>h) rfl (ay rfl rfl (lH _)) hS ?_;simp only[ap];refine aG 4 (.int .i64 p) (by kernel_rfl) rfl rfl (λ_ _ _ h=>h) rfl (ak rfl rfl (λw' q=>aB ((q.1.cell 3).trans rfl))) hS ?_;simp only[ap];refine aG 5 (.pointer (some ⟨w1.heap.size,3,none⟩)) (by kernel_rfl) rfl rfl (λ_ _ _ h=>h) rfl (ay rfl rfl (fU _)) hS ?_;simp only[ap];refine aG 6 (.pointer (some ⟨w1.heap.size,4,none⟩)) (by kernel_rfl) rfl rfl (λ_ _ _ h=>h) rfl (ay rfl rfl (lI _)) hS ?_;simp only[ap];refine aG 7 (.int .i64 er) (by kernel_rfl) rfl rfl (λ_ _ _ h=>h) rfl (ak rfl rfl (λw' q=>qi ((q.1.cell 4).trans rfl))) hS ?_
 simp only[ap];have hT6:=(hT5.set_ 0 (.slice A n c)).set_ 1 (.int .i64 r);simp only[List.set_cons_zero,List.set_cons_succ]at hT6;have hS6:=(hS.1.far (p:=⟨w.heap.size,0,none⟩) hne (.slice A n c)).far (p:=⟨w.heap.size,1,none⟩) hne (.int .i64 r);have hF6:Fr (λb=>b=w.heap.size) W5 ((W5.setCell ⟨w.heap.size,0,none⟩ (.slice A n c)).setCell ⟨w.heap.size,1,none⟩ (.int .i64 r)):=(Fr.set (E:=λb=>b=w.heap.size) (Fr.refl _ _) rfl _).set rfl _;have hb6:=(hb5.setCell (p:=⟨w.heap.size,0,none⟩) (Nat.le_refl _) (.slice A n c)).setCell (p:=⟨w.heap.size,1,none⟩) (Nat.le_refl _) (.int .i64 r);refine dQ 8 ({dst:=none,op:=Op.store 25 (Operand.tmp 2) (Operand.tmp 9),type:=0,pos := "parse.go:13",after := #[{on:=1,ground:=Ground.data},{on:=0,ground:=Ground.phase},{on:=1,ground:=Ground.phase},{on:=2,ground:=Ground.textOnly Departure.lateStores},{on:=3,ground:=Ground.textOnly Departure.lateStores},{on:=4,ground:=Ground.textOnly Departure.lateStores},{on:=5,ground:=Ground.textOnly Departure.lateStores},{on:=6,ground:=Ground.textOnly Departure.lateStores},{on:=7,ground:=Ground.textOnly Departure.lateStores}],guard:=none}:Oper) rfl (by kernel_rfl) rfl (tT rfl rfl rfl hT5 ⟨⟨hS6,_,_,hT6⟩,?_⟩);simp only[Act.put]
 have hS9:Bx ((W5.setCell ⟨w.heap.size,0,none⟩ (.slice A n c)).setCell ⟨w.heap.size,1,none⟩ (.int .i64 r)) w1.heap.size 56 [.slice A n c,.int .i64 r,.int .i64 m,.int .i64 p,.int .i64 er]/\∃u0 u1,Bx ((W5.setCell ⟨w.heap.size,0,none⟩ (.slice A n c)).setCell ⟨w.heap.size,1,none⟩ (.int .i64 r)) w.heap.size 25 [u0,u1]:=⟨hS6,_,_,hT6⟩;refine aG 9 (.int .i64 p) (by kernel_rfl) rfl rfl (λ_ _ _ h=>h) rfl (di rfl rfl) hS9 ?_;simp only[ap];refine aG 10 (.int .i64 er) (by kernel_rfl) rfl rfl (λ_ _ _ h=>h) rfl (di rfl rfl) hS9 ?_;simp only[ap];refine wpAnyH_done (by kernel_rfl) ?_ _;have hA6:=(hA5.fr hF6 (λb q=>by omega)).mono (B':=w.heap.size) (by omega);have z0:=(hT6.cell 0).trans rfl;have z1:=(hT6.cell 1).trans rfl;generalize (W5.setCell ⟨w.heap.size,0,none⟩ (.slice A n c)).setCell ⟨w.heap.size,1,none⟩ (.int .i64 r)=W6 at *
 have HE:=hid (And.intro hb6 hA6);clear hb6 hA6 hT6 hS6 hS9 hF6 hS hT5 hA5 hb5 hne hlt;go_wp2;exact bodyPost_ret (v :=.tuple #[.agg #[.slice A n c,.int .i64 r],.int .i64 p,.int .i64 er]) (by simp[results,Tryz.f16,go_sem,z0,z1]) rfl ⟨A,n,c,r,m,p,er,rfl,HE.out.1,HE.out.2⟩
end
section
open Tr (Bx aa bt eF Ints dP aM bU iJ lJ dpt)
structure Bk (l:List Tr.Nd) (r:Int) (y:List UInt8) (nd:List Nd):Prop where
 like:bR l (nd.map dI)
 len:nd.length=l.length
 root:(nd.length:Int)-1=r
 same:gz (nd.map dI) r=y
 right:lJ (nd.map dI) r=true
 kids:∀x ∈ nd.map dI,x.ks.length<=4000
 text:∀x ∈ nd.map dI,x.tx.size<=281474976710656
 num:∀x ∈ nd.map dI,x.n<=9223372036854775807
theorem I8 {l:List Tr.Nd}{r:Int}(hr:lJ l r=true)(hx:su l):∃nd k,gW jd (gz l r)=.good nd k/\Bk l r (gz l r) nd:=by
 obtain⟨nd,k,ha,hL,hroot⟩:=BD hr hx;have hc:∃us,Tk.iF (gz l r) 0=.ok us:=by
  cases e:Tk.iF (gz l r) 0 with
  |bad p=>rw[Eb e]at ha;cases ha
  |ok us=>exact⟨us,rfl⟩
 obtain⟨us,hc⟩:=hc;have hR:=vk hc ha;have hlen:nd.length=l.length:=by have:=hL.len;rwa [List.length_map]at this
 have hright:lJ (nd.map dI) r=true:=by rw[<- hroot];exact hR.right
 refine⟨nd,k,ha,hL.symm,hlen,hroot,?_,hright,hR.kids,hR.text,hR.num⟩;unfold gz;rw[hright,hr,if_pos rfl,if_pos rfl,hL.pgm,List.length_map,hlen]
theorem Bk.tin {l:List Tr.Nd}{r:Int}{y:List UInt8}{nd:List Nd}(h:Bk l r y nd){B:Nat}{w:World}{A:Option Addr}(hN:kz B w A (nd.map dI))(hT:Tb w):Ah w A l.length (nd.map dI):=
 ⟨hN.nds,by rw[List.length_map];exact h.len.symm,h.kids,h.text,h.num,hN.caps,hT⟩
theorem vQ (A:Option Addr)(c:Nat)(l:List Tr.Nd)(r:Int)(w:World)(hE:Tk.pO w)(hT:Tb w)(hN:eF w A l)(hnum:∀x ∈ l,x.n<=9223372036854775807)(hc:o7 w A l):Calls Tryz.prog 5 #[.agg #[.slice A l.length c,.int .i64 r]] w (bU (.bool true) w):=by
 have hb0:=aa w (.cells #[.slice A l.length c,.int .i64 r] 25);have HX:=hid (Bx.new w 25 [.slice A l.length c,.int .i64 r]);have HB0:=hid hb0;have HS:=hid (BB _ (hE.below hb0) (hT.below hb0));have HSM:=hid (show∀w',Below w.heap.size w w'->Calls Tryz.prog 20 #[.agg #[.slice A l.length c,.int .i64 r]] w' (C9 l w')from λw' q=>Ac A l.length c l r w' (hN.below q) rfl);have HTI:=hid (show IX l->∀w',Below w.heap.size w w'->Ah w' A l.length l from λh w' q=>(Ey hN hnum hc hT h).below q);have HLN:=hid (show IX l->(gz l r).length<=2800000000 from λh=>I6 r hnum λx hx=>by have:=(h.2 x hx).1;omega);have HSH:=hid (show IX l->lJ l r=true->su l from λh hr=>FL (jF (wK hr).snd) (wK hr).sh hnum λx hx=>by have:=(h.2 x hx).1;omega);have HET:=hid (And.intro hE hT);clear hE hT hN hnum hc hb0;have e0:=(HX.out.cell 0).trans rfl;have e1:=(HX.out.cell 1).trans rfl;go_enter Tryz.func5,Tryz.ntmps5
 go_wp2_with (go_at_call 19;refine HS.out.mono ?_);rintro e w1 ⟨rfl,hb1⟩;have HB1:=hid (bt HB0.out hb1);have HX1:=hid (HX.out.below hb1 HX.out.lt);have HSM1:=hid (HSM.out w1 HB1.out);clear e0 e1 hb1;have e0:=(HX1.out.cell 0).trans rfl;have e1:=(HX1.out.cell 1).trans rfl;go_wp2_with (go_at_call 20;refine HSM1.out.mono ?_);rintro e w2 ⟨hb2,b,rfl,hb⟩;have HB2:=hid (bt HB1.out hb2);have HX2:=hid (HX1.out.below hb2 HX1.out.lt);clear e0 e1 hb2;have e0:=(HX2.out.cell 0).trans rfl;have e1:=(HX2.out.cell 1).trans rfl;cases b with
 |false=>
  go_wp2
  go_ret
  exact⟨rfl,HB2.out⟩
 |true=>
  have hok:=hb rfl;have HTI2:=hid (HTI.out hok);have HLN2:=HLN.out hok;have hsh0:=HSH.out hok;have HP:=hid (jI A l.length c l r w2 (HTI2.out w2 HB2.out));have HR:=hid (show∀w',Below w.heap.size w w'->Calls Tryz.prog 27 #[.agg #[.slice A l.length c,.int .i64 r]] w' (dP (lJ l r) w')from λw' q=>(HTI2.out w' q).right c r);have hl4:=hok.1;have hk4:∀x ∈ l,x.ks.length<=4000:=λx hx=>by have:=(hok.2 x hx).1;omega
  have HSA:=hid (show∀nd,Bk l r (gz l r) nd->∀w' A2 d,Below w.heap.size w w'->eF w' A2 (nd.map dI)->Calls Tryz.prog 28 #[.agg #[.slice A l.length c,.int .i64 r],.agg #[.slice A2 l.length d,.int .i64 r]] w' (dP true w')from λnd hbk w' A2 d q hN2=>Hq A A2 l.length c d r l (nd.map dI) w' (HTI2.out w' q).nds hN2 hbk.like rfl (by omega) hk4);clear hb hok hl4 hk4;go_wp2_with (go_at_call 21;refine HP.out.mono ?_);rintro e w3 ⟨rfl,hb3⟩;have HB3:=hid (bt HB2.out hb3);have HX3:=hid (HX2.out.below hb3 HX2.out.lt);have HR3:=hid (HR.out w3 HB3.out);clear e0 e1 hb3 HR;have e0:=(HX3.out.cell 0).trans rfl;have e1:=(HX3.out.cell 1).trans rfl;cases hr:lJ l r with
  |false=>
   have hy:gz l r=[]:=by unfold gz;rw[hr];rfl
   rw[hy];have hem:=Ma;rw[hr]at HR3;clear hr hsh0 HLN2 hy HSA;go_wp2_with (go_at_call 27;refine HR3.out.mono ?_);rintro e w4 ⟨rfl,hb4⟩;have HB4:=hid (bt HB3.out hb4);clear hb4 e0 e1;go_wp2
   go_ret
   exact⟨rfl,HB4.out⟩
  |true=>
   obtain⟨nd,k,ha,hbk⟩:=I8 hr (hsh0 hr);have HBK:=hid hbk;have HA:=hid ha;have HSA2:=hid (HSA.out nd hbk);rw[hr]at HR3;have hroot:=hbk.root;have hlen:=hbk.len;have HPU:=hid (show∀B w' A2 d,kz B w' A2 (nd.map dI)->Tb w'->Calls Tryz.prog 21 #[.agg #[.slice A2 l.length d,.int .i64 r]] w' (bU (.string (mK (gz l r))) w')from λB w' A2 d hN2 hT2=>by
    have:=jI A2 l.length d (nd.map dI) r w' (hbk.tin hN2 hT2)
    rwa [hbk.same]at this)
   clear hr hsh0 HSA hbk ha;have HRT:=hid (And.intro hroot hlen);clear hroot hlen;generalize gz l r=y at *
   go_wp2_with (go_at_call 27;refine HR3.out.mono ?_);rintro e w4 ⟨rfl,hb4⟩;have HB4:=hid (bt HB3.out hb4);have HX4:=hid (HX3.out.below hb4 HX3.out.lt);clear hb4 e0 e1;have e0:=(HX4.out.cell 0).trans rfl;have e1:=(HX4.out.cell 1).trans rfl;have hsz:(mK y).size=y.length:=G8 y;have hdt:(mK y).data.toList=y:=zD y;by_cases h2:20000<y.length
   ·have HPL:=hid (yF (mK y) w4 (by rw[hsz];exact h2));have hz:(20000:Int)<((mK y).size:Int):=by rw[hsz];omega
    have hzd:decide ((20000:Int)<((mK y).size:Int))=true:=decide_eq_true hz;clear hdt hsz;go_wp2_with (go_at_call 16;refine HPL.out.mono ?_);rintro e w5 ⟨A2,n2,c2,r2,m2,p2,er2,rfl,hb5,_⟩;have HB5:=hid (bt HB4.out hb5);have HB6:=hid (bt HB5.out (aa w5 (.cells #[.slice A2 n2 c2,.int .i64 r2] 25)));clear hb5 e0 e1;go_wp2
    go_ret
    exact⟨rfl,HB6.out⟩
   ·have hpa:=tq (mK y) w4 (HET.out.1.below HB4.out) (by rw[hsz];omega);rw[hdt]at hpa;have hpg:Calls Tryz.prog 16 #[.string (mK y)] w4 (I4 nd w4):=hpa.mono λ_ _ q=>sO q HA.out
    unfold I4 at hpg;rw[HRT.out.1,HRT.out.2]at hpg;have HPG:=hid hpg;have hz:¬(20000:Int)<((mK y).size:Int):=by rw[hsz];omega
    have hzd:decide ((20000:Int)<((mK y).size:Int))=false:=decide_eq_false hz;clear hdt hsz hpa hpg;go_wp2_with (go_at_call 16;refine HPG.out.mono ?_);rintro e w5 ⟨A2,c2,rfl,hb5,hN5⟩;have hb6:=aa w5 (.cells #[.slice A2 l.length c2,.int .i64 r] 25);have HN6:=hid (hN5.below hb6);have HB45:=hid (bt hb5 hb6);have HB6:=hid (bt HB4.out HB45.out);have HX6:=hid (HX4.out.below HB45.out HX4.out.lt);have HY6:=hid (Bx.new w5 25 [.slice A2 l.length c2,.int .i64 r]);have HSA6:=hid (HSA2.out _ A2 c2 HB6.out HN6.out.nds);clear hb5 hb6 e0 e1 hN5;have e0:=(HX6.out.cell 0).trans rfl;have e1:=(HX6.out.cell 1).trans rfl;have y0:=(HY6.out.cell 0).trans rfl;have y1:=(HY6.out.cell 1).trans rfl;go_wp2_with (go_at_call 28;refine HSA6.out.mono ?_);rintro e w7 ⟨rfl,hb7⟩;have HB7:=hid (bt HB6.out hb7);have HY7:=hid (HY6.out.below hb7 HY6.out.lt);have HPU7:=hid (HPU.out _ w7 A2 c2 (HN6.out.below hb7) (HET.out.2.below HB7.out));clear hb7 e0 e1 y0 y1;have y0:=(HY7.out.cell 0).trans rfl;have y1:=(HY7.out.cell 1).trans rfl;go_wp2_with (go_at_call 21;refine HPU7.out.mono ?_);rintro e w8 ⟨rfl,hb8⟩;have HB8:=hid (bt HB7.out hb8);clear hb8 y0 y1;go_wp2
    go_ret
    exact⟨by simp,HB8.out⟩
end
end Go.Proofs.YteecfjhjllajlaaGreatDoor
