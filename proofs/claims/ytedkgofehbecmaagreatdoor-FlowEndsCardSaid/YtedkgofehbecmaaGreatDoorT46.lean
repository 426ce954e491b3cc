/- PROVED here: parts Rg Rl EndTL EndTK EndTR of the claim. No condition but those in each theorem's own head. -/
import Derived.Test.YtedkgofehbecmaaGreatDoorT45
import Derived.Test.YtedkgofehbecmaaGreatDoorT42
import Derived.Test.YtedkgofehbecmaaGreatDoorT43
import Derived.Test.YtedkgofehbecmaaGreatDoorT44
import Derived.Deep.RegionHeld3
import Derived.Deep.DeepCutAuto
import Derived.Deep.CutBlock
import Derived.Test.YtedkgofehbecmaaGreatDoorT01
import Derived.SevenTiedAt
import Derived.ChangeMaps5
import Derived.Test.YtedkgofehbecmaaGreatDoorRows
import Derived.JoinedOf
namespace Go.Proofs.YtedkgofehbecmaaGreatDoor
open Go.Lib (hid)
open Go
section
open Tr (nth stK)
variable {l:List Tr.Nd} {b:Nat->Nat} {R:Nat->Bool}
theorem La.mono {sp:Nat->Int}{F F':List Gn}{ex:Int}(h:∀(i:Nat) (x:Gn),F[i]?=some x->F'[i]?=some x){tr:Bool}{p:Nat}{ks:List Int}{fo ha bg:Int}(hL:La l R sp F ex tr p ks fo ha bg):La l R sp F' ex tr p ks fo ha bg:=by
 induction hL with
 |nil fo ha=>exact .nil fo ha
 |cons m ks fo ha b1 b2 h1 h2 ih1 ih2=>exact .cons m ks fo ha b1 b2 ih1 ih2
 |iff_ p a c d fo ha b1 b2 x hk hks h1 h2 hx hn hr ih1 ih2=>exact .iff_ p a c d fo ha b1 b2 x hk hks ih1 ih2 (h _ _ hx) hn hr
 |whl p a c fo ha b1 x hk hks h1 hx hn hr ih1=>exact .whl p a c fo ha b1 x hk hks ih1 (h _ _ hx) hn hr
 |try_ p c d fo ha b1 b2 x hk hks h1 h2 hx hn hr ih1 ih2=>exact .try_ p c d fo ha b1 b2 x hk hks ih1 ih2 (h _ _ hx) hn hr
 |oth p fo ha x h11 h12 h16 hx hn hr=>exact .oth p fo ha x h11 h12 h16 (h _ _ hx) hn hr
structure SegL (l:List Tr.Nd) (b:Nat->Nat) (R:Nat->Bool) (pr:Int) (lo a z:Nat) (G:List Gn):Prop where
 la:∃(c:Nat) (sp:Nat->Int) (k:Int),(nth l z).ks.getLastD 0=(c:Int)/\c<z/\a<=b c/\(nth l c).kd=6/\(∀q,0<=sp q)/\(∀q,a<=q->q<z->stmB (nth l q).kd=true->b c<=q/\q<c/\sp q=((lo+3+(stsL l a q).length:Nat):Int)) /\
  G[lo]?=some ⟨1,(z:Int),pr,[k],-1⟩/\La l R sp G ((lo+1:Nat):Int) false 0 (nth l c).ks ((lo+1:Nat):Int) ((lo+2:Nat):Int) k
theorem SegL.mono {pr:Int}{lo a z:Nat}{G G':List Gn}(h:SegL l b R pr lo a z G)(k:∀i,i<G.length->G'[i]?=G[i]?):SegL l b R pr lo a z G':=by
 have hk:∀(i:Nat) (x:Gn),G[i]?=some x->G'[i]?=some x:=λi x hx=>(k i (List.getElem?_eq_some_iff.1 hx).1).trans hx
 obtain⟨c,sp,m,h1,h2,h3,h4,h0,h5,h6,h7⟩:=h.la
 exact⟨c,sp,m,h1,h2,h3,h4,h0,h5,hk _ _ h6,h7.mono hk⟩
theorem spA_pos {sp:Nat->Int}(h:∀q,0<=sp q){n a z:Nat}(q:Nat):0<=spA l sp n a z q:=by
 unfold spA
 split
 ·omega
 ·exact h q
theorem prG_la (h:RtN l b){R:Nat->Bool}{pr:Int}{G:List Gn}{sp:Nat->Int}{a z:Nat}(hz:z<l.length)(h3:(nth l z).kd=3)(ha:b z=a)(h0:∀q,0<=sp q) :
  SegL l b R pr G.length a z (prG l R pr G sp a z).1:=by
 obtain⟨us,c,hks,hcz,hbc,h6,hus⟩:=fl_proc h hz h3
 have hlast:((nth l z).ks.getLastD 0)=(c:Int):=by rw[hks];simp
 obtain⟨sp',hsp⟩:∃sp',spA l sp (G.length+3) a z=sp':=⟨_,rfl⟩
 have hnu:=nu_of (l:=l) (sp:=sp) (n:=G.length) (a:=a) (z:=z) (by omega)
 rw[hsp]at hnu
 have hnum:∀q,a<=q->q<z->stmB (nth l q).kd=true->sp' q=((G.length+3+(stsL l a q).length:Nat):Int):=λq k1 k2 k3=>by rw[<- hsp];exact spA_in k1 k2 k3
 obtain⟨G1,hG1⟩:∃G1,G++endsG z pr++rowG l pr a z=G1:=⟨_,rfl⟩
 have hend:∀i,i<3->G1[G.length+i]?=(endsG z pr)[i]?:=λi hi=>by
  rw[<- hG1,List.append_assoc,List.getElem?_append_right (by omega),List.getElem?_append_left (by simp[endsG];omega),Nat.add_sub_cancel_left]
 have hrow:∀j q:Nat,(stsL l a z)[j]?=some q->G1[G.length+3+j]?=some ⟨4,(q:Int),pr,[],-1⟩:=λj q hj=>by
  rw[<- hG1,List.getElem?_append_right (by simp[endsG])]
  have:G.length+3+j-(G++endsG z pr).length=j:=by simp[endsG]
  rw[this]
  unfold rowG
  rw[List.getElem?_map,hj];rfl
 have hinv:Inv l R sp' pr a z G.length (G.length+3+(stsL l a z).length) (λ_=>False) G1:=λq k1 k2 k3=>by
  refine⟨⟨4,(q:Int),pr,[],-1⟩,?_,⟨rfl,rfl,rfl,λ_=>rfl⟩,λh=>h.elim⟩
  rw[hnum q k1 k2 k3,Int.toNat_natCast]
  exact hrow _ _ (stsL_at k1 k2 k3)
 have hT1:Tg G.length (G.length+3+(stsL l a z).length) ((G.length+1:Nat):Int):=⟨_,rfl,by omega,by omega⟩
 have hT2:Tg G.length (G.length+3+(stsL l a z).length) ((G.length+2:Nat):Int):=⟨_,rfl,by omega,by omega⟩
 obtain⟨g1,g2,g3⟩:=(sbg_of (R:=R) (pr:=pr) h hnu hT1 l.length).2 c (λ_=>False) G1 _ _ (by omega) (by omega) hcz h6 hinv hT1 hT2
 have hla:=λF=>(la_of (R:=R) (pr:=pr) (F:=F) h hnu hT1 l.length).2 c (λ_=>False) G1 _ _ (by omega) (by omega) hcz h6 hinv hT1 hT2
 obtain⟨r,hr⟩:∃r,blG l R sp' l.length G1 c ((G.length+1:Nat):Int) ((G.length+2:Nat):Int) ((G.length+1:Nat):Int)=r:=⟨_,rfl⟩
 rw[hr]at g1 g2 g3
 rw[hr]at hla
 have hpr:prG l R pr G sp a z=(wayG r.1 G.length [r.2] none,sp'):=by
  unfold prG
  dsimp only
  rw[hsp,hG1,hlast,Int.toNat_natCast,hr]
 rw[hpr]
 have he0:r.1[G.length]?=some ⟨1,(z:Int),pr,[],-1⟩:=by
  rw[g2 _ (λq k1 k2 k3 e=>by
   rw[hnum q (by omega) (by omega) k3,Int.toNat_natCast]at e;omega)]
  have:=hend 0 (by omega);rw[Nat.add_zero]at this;rw[this];rfl
 have hw:wayG r.1 G.length [r.2] none=r.1.set G.length ⟨1,(z:Int),pr,[r.2],-1⟩:=by
  unfold wayG;rw[he0];rfl
 dsimp only
 rw[hw]
 have hlt:G.length<r.1.length:=(List.getElem?_eq_some_iff.1 he0).1
 refine⟨c,sp',r.2,hlast,hcz,by omega,h6,by rw[<- hsp];exact spA_pos h0,λq k1 k2 k3 =>?_,List.getElem?_set_self hlt,hla _ λq k1 k2 k3 =>?_⟩
 ·obtain⟨m,f1,f2,f3,f4⟩:=fl_in h hz (by omega:b z<=q) k2
  rw[hks]at f1
  rcases List.mem_append.1 f1 with f1 |f1
  ·have h45:=hus _ f1
   rw[Int.toNat_natCast]at h45
   have:=fl_leaf h (p:=m) (by omega) h45
   obtain rfl:q=m:=by omega
   rcases h45 with e |e<;>(rw[e]at k3;exact absurd k3 (by decide))
  ·obtain rfl:m=c:=by simp at f1;omega
   have:q≠m:=λe=>by rw[e,h6]at k3;exact absurd k3 (by decide)
   exact⟨f2,by omega,hnum q k1 k2 k3⟩
 ·rw[List.getElem?_set_ne (by rw[hnum q (by omega) (by omega) k3,Int.toNat_natCast];omega)]
theorem bd_la (h:RtN l b):∀(ks:List Int) (first e:Nat) (t:List (Nat × Nat)) (s:BdS),Ch b ks first e->(∀k ∈ ks,∃m:Nat,k=(m:Int)/\m<l.length-1/\((nth l m).kd=2/\b m=m\/(nth l m).kd=3))->IsG l b R t first s->(∀p (hp:p<t.length),SegL l b R (p:Int) (offG l t p) t[p].1 t[p].2 s.G)->(∀q,0<=s.sp q)->∃t',IsG l b R t' e (bdG l R ks first s)/\∀p (hp:p<t'.length),SegL l b R (p:Int) (offG l t' p) t'[p].1 t'[p].2 (bdG l R ks first s).G
 | [],first,e,t,s,hc,_,hs,hl,_=>by unfold Ch at hc;subst hc;exact⟨t,hs,hl⟩
 |k :: ks,first,e,t,s,hc,hk,hs,hl,h0=>by
  obtain⟨m,rfl,hb,hc⟩:=hc
  obtain⟨m',e1,hml,hkd⟩:=hk (m:Int) (by simp)
  obtain rfl:m=m':=by omega
  unfold bdG
  rw[Int.toNat_natCast]
  rcases hkd with⟨h2,hbm⟩ |h3
  ·rw[if_neg (by rw[h2];decide)]
   exact bd_la h ks (m+1) e t s hc (λk hk'=>hk k (by simp[hk'])) (is_glob hs h2 (hb.symm.trans hbm)) hl h0
  ·rw[if_pos h3]
   refine bd_la h ks (m+1) e _ _ hc (λk hk'=>hk k (by simp[hk'])) (is_proc h hs (by omega) h3 hb) (λp hp =>?_) (spA_pos h0)
   have hPl:s.P.length=t.length:=by rw[hs.P,List.length_map]
   have g1:=prG_la (R:=R) (pr:=(s.P.length:Int)) (G:=s.G) (sp:=s.sp) h (show m<l.length by omega) h3 hb h0
   have g2:=(prG_seg (R:=R) (pr:=(s.P.length:Int)) (G:=s.G) (sp:=s.sp) h (show m<l.length by omega) h3 hb).2
   rw[List.length_append,List.length_singleton]at hp
   by_cases e:p<t.length
   ·rw[offG_app l t _ (by omega)]
    simp only[List.getElem_append_left e]
    exact(hl p e).mono g2
   ·obtain rfl:p=t.length:=by omega
    rw[offG_app l t _ (Nat.le_refl _),<- hs.len]
    simp only[List.getElem_append_right (Nat.le_refl _),Nat.sub_self,List.getElem_cons_zero]
    rw[hPl]at g1 |-
    exact g1
theorem gr_la (h:RtN l b)(R:Nat->Bool):∃t,IsG l b R t (l.length-1) (grG l R)/\∀p (hp:p<t.length),SegL l b R (p:Int) (offG l t p) t[p].1 t[p].2 (grG l R).G:=by
 have hl:=h.len
 have hst:=fl_st h (p:=l.length-1) (by omega)
 have hc:=ch_of _ _ _ hst
 rw[List.reverse_reverse,h.zero]at hc
 exact bd_la h _ _ _ [] _ hc (λk hk=>fl_root h hk) ⟨rfl,rfl,λp hp=>absurd hp (Nat.not_lt_zero _),λx hx=>(List.not_mem_nil hx).elim,by rw[stsL_same];rfl,λq hq=>absurd hq (Nat.not_lt_zero _),λq hq=>absurd hq (Nat.not_lt_zero _),Nat.le_refl _⟩ (λp hp=>absurd hp (Nat.not_lt_zero _)) λ_=>Int.le_refl 0
theorem stsL_idx {a z j q:Nat}(hj:(stsL l a z)[j]?=some q):(stsL l a q).length=j:=by
 obtain⟨⟨k1,k2⟩,k3⟩:=stsL_mem.1 (List.mem_of_getElem? hj)
 have h1:=stsL_at k1 k2 k3
 have hnd:(stsL l a z).Nodup:=by unfold stsL;exact(List.nodup_range' (step:=1) ).filter _
 obtain⟨a1,a2⟩:=List.getElem?_eq_some_iff.1 h1
 obtain⟨b1,b2⟩:=List.getElem?_eq_some_iff.1 hj
 rcases Nat.lt_trichotomy (stsL l a q).length j with hlt |hlt |hlt
 ·exact absurd (a2.trans b2.symm) (List.pairwise_iff_getElem.1 hnd _ _ a1 b1 hlt)
 ·exact hlt
 ·exact absurd (b2.trans a2.symm) (List.pairwise_iff_getElem.1 hnd _ _ b1 a1 hlt)
theorem IsG.endr {t:List (Nat × Nat)}{s:BdS}(h:RtN l b)(hs:IsG l b R t (l.length-1) s)(hl:∀p (hp:p<t.length),SegL l b R (p:Int) (offG l t p) t[p].1 t[p].2 s.G)(hT:∀q,q<l.length->(nth l q).kd=15->R q=true){i:Nat}(hi:i<s.G.length):EndR s.G (i:Int):=by
 obtain⟨p,hp,h1,h2⟩:=hs.find i hi
 obtain⟨⟨e,k1,k2⟩,k3,k4,k5⟩:=hs.seg p hp
 have ho:=offG_succ (l:=l) hp
 obtain⟨c,sp,k,g1,g2,g3,g4,g0,g5,g6,g7⟩:=(hl p hp).la
 obtain⟨hz1,hz2,hz3⟩:=hs.ok _ (List.getElem_mem hp)
 obtain⟨c1,c2,c3⟩:=fl_kd6 h (show c<l.length by omega) g4
 have hex:EndR s.G ((offG l t p+1:Nat):Int) :=.here _ _ k3 (.inl rfl)
 have hfa:EndR s.G ((offG l t p+2:Nat):Int) :=.here _ _ k4 (.inr rfl)
 obtain⟨r1,r2⟩:=(la_end h (λq _ _=>g0 q) hT hex g7 hex hfa).2 rfl _ _ (by omega) c1 c2
 by_cases e0:i=offG l t p
 ·rw[e0];exact .step _ _ k g6 (.inl (by simp)) r1
 by_cases e1:i=offG l t p+1
 ·rw[e1];exact hex
 by_cases e2:i=offG l t p+2
 ·rw[e2];exact hfa
 have hj:i-(offG l t p+3)<(stsL l t[p].1 t[p].2).length:=by omega
 have hq:=List.getElem?_eq_getElem hj
 obtain⟨⟨q1,q2⟩,q3⟩:=stsL_mem.1 (List.getElem_mem hj)
 obtain⟨d1,d2,d3⟩:=g5 _ q1 q2 q3
 have:=r2 _ d1 d2 q3
 rw[d3,stsL_idx hq]at this
 rwa [show offG l t p+3+(i-(offG l t p+3))=i by omega]at this
end
def nthG (G:List Gn)(i:Nat):Gn:=G[i]?.getD ⟨0,0,0,[],-1⟩
theorem nthG_at {G:List Gn}{i:Nat}(h:i<G.length):nthG G i=G[i]:=by unfold nthG;rw[List.getElem?_eq_getElem h];rfl
def aftG (G:List Gn)(i:Nat):List Int:=aftL (nthG G i)
section
open Tr (nth)
variable {l:List Tr.Nd} {b:Nat->Nat} {R:Nat->Bool} {t:List (Nat × Nat)} {first:Nat} {s:BdS}
theorem endr_in {F:List Gn}{N i:Nat}{xs:List Nat}(hx:RchS (aftG F) N i xs){k:Int}(h:EndR F k):∀y:Nat,k=(y:Int)->y ∈ xs->∃j ∈ xs,∃x,F[j]?=some x/\(x.kd=2\/x.kd=3):=by
 induction h with
 |here j x h hk=>
  intro y e hy
  obtain rfl:j=y:=by omega
  exact⟨j,hy,x,h,hk⟩
 |step j x k h hk hr ih=>
  intro y e hy
  obtain rfl:j=y:=by omega
  obtain⟨j2,h2,e2⟩:=hx.cl j hy k (by
   unfold aftG nthG
   rw[h]
   exact(aft_mem x k).2 hk)
  exact ih j2 e2 h2
theorem IsG.prOf (hs:IsG l b R t first s){i:Nat}(hi:i<s.G.length):∃p,p<t.length/\(s.G[i]).pr=(p:Int):=by
 rcases hs.at i hi with⟨p,hp,hi',e',hx,hk⟩ |⟨p,hp,hi',hx⟩ |⟨p,hp,hi',hx⟩ |⟨p,hp,q,hi',hq,hst,hx⟩
 ·exact⟨p,hp,by rw[hx]⟩
 ·exact⟨p,hp,by rw[hx]⟩
 ·exact⟨p,hp,by rw[hx]⟩
 ·exact⟨p,hp,hx.bs.pr⟩
theorem IsG.rch (hs:IsG l b R t first s)(hT:∀q,(nth l q).kd=15->q<l.length->R q=true)(hl:∀p (hp:p<t.length),(t[p]).2<=l.length){i:Nat}(hi:i<s.G.length)(hE:EndR s.G (i:Int)){xs:List Nat}(hx:RchS (aftG s.G) s.G.length i xs) :
  ∃p,p<t.length/\(s.G[i]).pr=(p:Int)/\(∀j ∈ xs,∃hj:j<s.G.length,(s.G[j]).pr=(p:Int))/\(offG l t p+1 ∈ xs\/offG l t p+2 ∈ xs):=by
 obtain⟨p,hpt,hpr⟩:=hs.prOf hi
 have hall:=hx.al (λj=>∃hj:j<s.G.length,(s.G[j]).pr=(p:Int)) ⟨hi,hpr⟩ (λy ⟨hy,e⟩ j hj=>by
  unfold aftG at hj
  rw[nthG_at hy]at hj
  obtain⟨j',e',hj',_,hp'⟩:=(hs.aft hT hl hy).1 _ hj
  obtain rfl:j=j':=by omega
  exact⟨hj',hp'.trans e⟩)
 refine⟨p,hpt,hpr,hall,?_⟩
 obtain⟨j,hj,x,hxj,hk⟩:=endr_in hx hE i rfl hx.fr
 obtain⟨hjl,hjp⟩:=hall j hj
 obtain rfl:s.G[j]=x:=(List.getElem?_eq_some_iff.1 hxj).2
 rcases hs.at j hjl with⟨p',hp,hi',e',hx,_⟩ |⟨p',hp,hi',hx⟩ |⟨p',hp,hi',hx⟩ |⟨p',hp,q,hi',hq,hst,hx⟩
 ·rw[hx]at hk;rcases hk with hk |hk<;>exact absurd hk (show¬((1:Int)=_)by decide)
 ·rw[hx]at hjp
  obtain rfl:p'=p:=by have hjp:(p':Int)=(p:Int):=hjp;omega
  exact .inl (hi'▸hj)
 ·rw[hx]at hjp
  obtain rfl:p'=p:=by have hjp:(p':Int)=(p:Int):=hjp;omega
  exact .inr (hi'▸hj)
 ·have hk4:=hx.bs.kd
  rw[hk4]at hk;rcases hk with hk |hk<;>exact absurd hk (show¬((4:Int)=_)by decide)
end
end Go.Proofs.YtedkgofehbecmaaGreatDoor
namespace Go.Proofs.YtedkgofehbecmaaGreatDoor
open Go.Lib (hid)
open Go Go.RowKit Go.Sort
open Tr (Bx heap1 bt Nds Ints BPost rgB)
set_option maxRecDepth 100000 in
set_option maxHeartbeats 8000000 in
theorem flowEnds_any (A:Option Addr)(c n:Nat)(l:List Tr.Nd)(r:Int)(w:World)(hn:n=l.length)(hE:Tk.Errs w)(hN:Nds w A l)(hnum:∀x ∈ l,x.n<=9223372036854775807)(hc:Caps w A l):Calls Tryz.prog 5 #[.agg #[.slice A n c,.int .i64 r]] w (VPost (.bool true) w):=by
 have hb0:=heap1 w (.cells #[.slice A n c,.int .i64 r] 24)
 have HX:=hid (Bx.new w 24 [.slice A n c,.int .i64 r])
 have HB0:=hid hb0
 have HS:=hid (shown14_any _ (hE.below hb0))
 have HSM:=hid (show∀w',Below w.heap.size w w'->Calls Tryz.prog 15 #[.agg #[.slice A n c,.int .i64 r]] w' (SmPost8 l w')from λw' q=>small15_any A n c l r w' (hN.below q) hn)
 have HTT:=hid (show OkT8 l->∀w',Below w.heap.size w w'->TT w' A n l from λh w' q=>(TT.mk hN hn (λx hx=>by have:=(h.2 x hx).1;omega) (λx hx=>by have:=(h.2 x hx).2;omega) hnum hc).below q)
 have HL:=hid hn
 clear hE hN hnum hc hb0 hn
 obtain⟨W0,hW0⟩:∃W0,w.alloc (.cells #[.slice A n c,.int .i64 r] 24)=W0:=⟨_,rfl⟩
 rw[hW0]at HX HB0 HS
 go_enter Tryz.func5,Tryz.ntmps5
 go_wp2_with (go_at_call 14;refine HS.out.mono ?_)
 rintro e w1 ⟨rfl,hb1⟩
 have HX1:=hid (HX.out.below hb1 HX.out.lt)
 have HB1:=hid (bt HB0.out hb1)
 have a0:=(HX1.out.cell 0).trans rfl
 have a1:=(HX1.out.cell 1).trans rfl
 clear hb1 hW0 HS HX HB0
 go_wp2_with (go_at_call 15;refine(HSM.out _ HB1.out).mono ?_)
 rintro e w2 ⟨hb2,bo,rfl,hok⟩
 have HB2:=hid (bt HB1.out hb2)
 cases bo with
 |false=>
  clear hb2 hok a0 a1
  go_wp2
  go_ret
  exact⟨rfl,HB2.out⟩
 |true=>
  have HOK:=hid (hok rfl)
  have HX2:=hid (HX1.out.below hb2 HX1.out.lt)
  clear hb2 hok a0 a1
  have a0:=(HX2.out.cell 0).trans rfl
  have a1:=(HX2.out.cell 1).trans rfl
  cases hr:okT l r with
  |false=>
   have HBN:=hid (build_no (HTT.out HOK.out _ HB2.out) c r hr)
   clear hr
   go_wp2_with (go_at_call 16;refine HBN.out.mono ?_)
   rintro e w3 ⟨rfl,hb3⟩
   have HE:=hid (bt (bt HB2.out hb3) (heap1 w3 (.cells #[.slice none 0 0,.slice none 0 0] 30)))
   clear hb3 a0 a1
   go_wp2
   go_ret
   exact⟨rfl,HE.out⟩
  |true=>
   have HBN:=hid (build_yes (HTT.out HOK.out _ HB2.out) c r hr)
   have HR:=hid hr
   obtain⟨⟨b,hRt⟩,hl4,hrr⟩:=rtn_of (ok_rg hr)
   obtain⟨R,hRs⟩:∃R,rsF l r n=R:=⟨_,rfl⟩
   rw[hRs]at HBN
   obtain⟨t,hIs,hLa⟩:=gr_la hRt R
   have hself:∀q,(Tr.nth l q).kd=15->q<l.length->R q=true:=λq hk hq=>by
    rw[<- hRs]
    exact rsF_self r n q (by rw[HL.out];exact hq) (by unfold selfB;rw[hk];rfl)
   have HSF:=hid hself
   obtain⟨s,hs⟩:∃s,grG l R=s:=⟨_,rfl⟩
   rw[hs]at HBN hIs
   have HER:=hid (λ(i:Nat) (hi:i<s.G.length)=>hIs.endr hRt (by rw[<- hs];exact hLa) (λq k1 k2=>hself q k2 k1) hi)
   have HIS:=hid hIs
   have HRT:=hid hRt
   have HPS:=hid hIs.P
   have HPL:=hid (show s.P.length=t.length by rw[hIs.P,List.length_map])
   have hpos:0<s.G.length:=by
    have h1:=hIs.pos hRt (r:=r) (by have:=hr;unfold okT chkT at this;rw[ok_rg hr]at this;simpa using this)
    have:=hIs.big.1
    omega
   have hbig:s.G.length<=20000:=by have:=hIs.big.2;omega
   have HBIG:=hid hbig
   clear hr hRs hIs hs hrr hself hRt hbig hLa
   go_wp2_with (go_at_call 16;refine HBN.out.mono ?_)
   rintro e w3 ⟨v,rfl,V,U,base,rfl,hb3,hbase,hGn,hOw⟩
   obtain⟨VA,vc,hV⟩:=hGn.slice
   obtain⟨UA,uc,hU⟩:=own_slice hOw
   subst hV
   subst hU
   obtain⟨NG,hNG⟩:∃NG,s.G.length=NG:=⟨_,rfl⟩
   obtain⟨NP,hNP⟩:∃NP,s.P.length=NP:=⟨_,rfl⟩
   rw[hNG,hNP]
   have hbx:=heap1 w3 (.cells #[.slice VA NG vc,.slice UA NP uc] 30)
   have HG3:=hid (Bx.new w3 30 [.slice VA NG vc,.slice UA NP uc])
   have HB3:=hid (bt (bt HB2.out hb3) hbx)
   have HGn:=hid (hGn.move (E:=λ_=>False) (X':=λ_=>False) (Fr.of hbx) (λ_ _=>id) (λ_ _ _ _ _=>⟨id,id⟩))
   have HNG:=hid (And.intro hNG hNP)
   obtain⟨z3,hz3⟩:∃z3,w3.heap.size=z3:=⟨_,rfl⟩
   obtain⟨W3,hW3⟩:∃W3,w3.alloc (.cells #[.slice VA NG vc,.slice UA NP uc] 30)=W3:=⟨_,rfl⟩
   rw[hW3]at HG3 HB3 HGn
   rw[hz3]at HG3
   clear hb3 hbase hGn hOw hbx hNG hNP a0 a1 HBN HX1 HX2 HB1 HB2
   obtain⟨gb,cap,hVA,hgb,hcp,hcm,hGR⟩:=HGn.out.gr hpos
   have hVA2:VA=some ⟨gb,0,none⟩:=by injection hVA
   have hvc:vc=cap:=by injection hVA
   subst hVA2
   subst hvc
   have HGR:=hid hGR
   clear hVA hgb hcp hcm hGR hpos
   have hn4:n<=4000:=by rw[HL.out];exact hl4
   have hng:NG<=20000:=by rw[<- HNG.out.1];exact HBIG.out
   have hnp:NP<=4000:=by rw[<- HNG.out.2,HPL.out];have:=HIS.out.bnd;omega
   have HGB:=hid (λ(W:World) (q:Below W3.heap.size W3 W)=>show W.cell? ⟨z3,0,none⟩=some (.slice (some ⟨gb,0,none⟩) NG vc)/\W.cell? ⟨z3,1,none⟩=some (.slice UA NP uc) from⟨((HG3.out.below q HG3.out.lt).cell 0).trans rfl,((HG3.out.below q HG3.out.lt).cell 1).trans rfl⟩)
   have HAFT:=hid (λ(i:Nat) (hi:i<s.G.length)=>HIS.out.aft HSF.out (λp hp=>Nat.le_of_lt (HIS.out.ok _ (List.getElem_mem hp)).1) hi)
   have HAF:=hid (λ(W:World) (q:Below W3.heap.size W3 W) (j:Nat) (hj:j<NG)=>show Calls Tryz.prog 27 #[.agg #[.slice (some ⟨gb,0,none⟩) NG vc,.slice UA NP uc],.int .i64 (j:Int)] W (IsP (aftG s.G j) W)from by
    have hj2:j<s.G.length:=by rw[HNG.out.1];exact hj
    have t:=after_in (HGR.out.below q) vc UA NP uc hj2 (by have:=(HAFT.out j hj2).2.2;omega)
    rw[HNG.out.1,<- nthG_at hj2]at t
    exact t)
   have HRE:=hid (λ(W:World) (q:Below W3.heap.size W3 W) (j:Nat) (hj:j<NG)=>show Calls Tryz.prog 29 #[.agg #[.slice (some ⟨gb,0,none⟩) NG vc,.slice UA NP uc],.int .i64 (j:Int)] W (λe w'=>∃xs,RchS (aftG s.G) NG j xs/\IsP (rchI xs) W e w') from
    reach_in (some ⟨gb,0,none⟩) UA NG vc NP uc (aftG s.G) hng hj (λj hj k hk=>by
     have hj2:j<s.G.length:=by rw[HNG.out.1];exact hj
     unfold aftG at hk
     rw[nthG_at hj2]at hk
     obtain⟨m,e,hm,_⟩:=(HAFT.out j hj2).1 k hk
     exact⟨m,e,by rw[<- HNG.out.1];exact hm⟩) (λj hj=>by
     have hj2:j<s.G.length:=by rw[HNG.out.1];exact hj
     unfold aftG
     rw[nthG_at hj2]
     have:=aft_len s.G[j]
     have:=(HAFT.out j hj2).2.2
     omega) (λW' q' j hj=>HAF.out W' (bt q q') j hj))
   go_upto_region 8 with(fail)
   obtain⟨g0,g1⟩:=HGB.out _ (Below.refl _ _)
   go_wp2
   go_loopg [7] NG (λk v7 wr=>∃i:Nat,i+k=NG/\v7 = .int .i64 (i:Int)/\Below W3.heap.size W3 wr)
   case atStart=>exact⟨0,Nat.zero_add _,rfl,Below.refl _ _⟩
   case round=>
    obtain⟨i,hi,rfl,hb⟩:=hrel
    obtain⟨W4,rfl⟩:∃W4,W4=wr:=⟨_,rfl⟩
    have HB4:=hid hb
    have HGK:=hid hi
    clear g0 g1
    obtain⟨g0,g1⟩:=HGB.out _ hb
    by_cases hlt:i<NG
    ·have hiz:(i:Int)<(NG:Int):=by omega
     have hil:i<s.G.length:=by rw[HNG.out.1];exact hlt
     obtain⟨K5,c5,-,-,y2,-,-,-⟩:=(HGR.out.below hb).nd hil
     obtain⟨p,hpt,hpr⟩:=HIS.out.prOf hil
     rw[hpr]at y2
     have HPR:=hid (And.intro hpt hpr)
     have HC:=hid (HRE.out W4 hb i hlt)
     have HIL:=hid hil
     have HLT:=hid hlt
     have hE1:=HIS.out.ends hpt (c:=1) (by omega)
     have hE2:=HIS.out.ends hpt (c:=2) (by omega)
     have HCX:=hid (λ(W:World) (q:Below W3.heap.size W3 W)=>show Calls Tryz.prog 23 #[.agg #[.slice (some ⟨gb,0,none⟩) NG vc,.slice UA NP uc],.int .i64 (p:Int)] W (VPost (.int .i64 ((offG l t p+1:Nat):Int)) W)from by
      have t2:=exit_any (HGR.out.below q) (by have:=HBIG.out;omega) vc UA NP uc (p:Int)
      rw[HNG.out.1]at t2
      rw[show ixF (λx:Gn=>x.kd==2&&x.pr==(p:Int)) s.G 0=((offG l t p+1:Nat):Int)from hE1]at t2
      exact t2)
     have HCF:=hid (λ(W:World) (q:Below W3.heap.size W3 W)=>show Calls Tryz.prog 24 #[.agg #[.slice (some ⟨gb,0,none⟩) NG vc,.slice UA NP uc],.int .i64 (p:Int)] W (VPost (.int .i64 ((offG l t p+2:Nat):Int)) W)from by
      have t2:=fail_any (HGR.out.below q) (by have:=HBIG.out;omega) vc UA NP uc (p:Int)
      rw[HNG.out.1]at t2
      rw[show ixF (λx:Gn=>x.kd==3&&x.pr==(p:Int)) s.G 0=((offG l t p+2:Nat):Int)from hE2]at t2
      exact t2)
     clear hE1 hE2 hi hb
     go_upto_region 13 with(go_at_call 29;refine HC.out.mono ?_;rintro e w5 ⟨xs,hxs,AA,ca,rfl,hI5,hb5⟩)
     obtain⟨p',hpt',hpr',hall,hend⟩:=HIS.out.rch HSF.out (λp hp=>Nat.le_of_lt (HIS.out.ok _ (List.getElem_mem hp)).1) hil (HER.out i hil) (by rw[HNG.out.1];exact hxs)
     obtain rfl:p=p':=by have:=hpr'.symm.trans hpr;omega
     have hlen:=hxs.len
     have HXS:=hid hxs
     have HALL:=hid hall
     obtain⟨m,hm⟩:∃m,(rchI xs).length=m:=⟨_,rfl⟩
     rw[hm]
     have hm2:m<=20000:=by rw[<- hm,rchI_len];omega
     have HM:=hid hm
     have HI5:=hid hI5
     have HB5:=hid (bt HB4.out hb5)
     obtain⟨bm,hbm⟩:∃bm:Int->Bool,bm=λz=>decide (z ∈ rchI xs):=⟨_,rfl⟩
     have HAM:=hid (λ(W:World) (q:Below w5.heap.size w5 W) (z:Int)=>show Calls Tryz.prog 31 #[.slice AA m ca,.int .i64 z] W (VPost (.bool (bm z)) W)from by
      rw[hbm,<- hm]
      exact among31_any (hI5.below q) (by omega) ca z)
     have hb_i:bm (i:Int)=true:=by rw[hbm];exact decide_eq_true ((rchI_mem xs _).2 ⟨i,hxs.fr,rfl⟩)
     have hb_e:bm ((offG l t p+1:Nat):Int)=true\/(bm ((offG l t p+1:Nat):Int)=false/\bm ((offG l t p+2:Nat):Int)=true):=by
      rw[hbm]
      by_cases e:offG l t p+1 ∈ xs
      ·exact .inl (decide_eq_true ((rchI_mem xs _).2 ⟨_,e,rfl⟩))
      ·refine .inr ⟨decide_eq_false λh =>?_,decide_eq_true ((rchI_mem xs _).2 ⟨_,hend.resolve_left e,rfl⟩)⟩
       obtain⟨j,hj,e2⟩:=(rchI_mem xs _).1 h
       exact e (by rw[show offG l t p+1=j by omega];exact hj)
     generalize ((offG l t p+1:Nat):Int)=ex1 at *
     generalize ((offG l t p+2:Nat):Int)=ex2 at *
     clear g0 g1 hbm hm hI5 hall hend hxs hb5 hpr hpr' hpt hpt' hlen y2 HC
     obtain⟨g0,g1⟩:=HGB.out _ HB5.out
     have HBR:=hid (Below.refl w5.heap.size w5)
     go_cut [63] (λx wx=>x = .bool false/\Below w5.heap.size w5 wx)
     case first=>
      rcases hb_e with hb_e |⟨hb_e,hb_f⟩
      ·go_wp2_with (first|(go_at_call 31;refine(HAM.out _ (by first|assumption |exact Below.refl _ _) _).mono ?_;rintro e w6 ⟨rfl,hb6⟩;have hq:=bt (by first|assumption |exact Below.refl _ _) hb6;clear g0 g1;obtain⟨g0,g1⟩:=HGB.out _ (bt HB5.out hq)) |(go_at_call 23;refine(HCX.out _ (bt HB5.out (by assumption))).mono ?_;rintro e w7 ⟨rfl,hb7⟩;have hq:=bt (by assumption) hb7;clear g0 g1;obtain⟨g0,g1⟩:=HGB.out _ (bt HB5.out hq)) |(go_at_call 24;refine(HCF.out _ (bt HB5.out (by assumption))).mono ?_;rintro e w7 ⟨rfl,hb7⟩;have hq:=bt (by assumption) hb7;clear g0 g1;obtain⟨g0,g1⟩:=HGB.out _ (bt HB5.out hq)))
       go_meet
       exact⟨rfl,by assumption⟩
      ·go_wp2_with (first|(go_at_call 31;refine(HAM.out _ (by first|assumption |exact Below.refl _ _) _).mono ?_;rintro e w6 ⟨rfl,hb6⟩;have hq:=bt (by first|assumption |exact Below.refl _ _) hb6;clear g0 g1;obtain⟨g0,g1⟩:=HGB.out _ (bt HB5.out hq)) |(go_at_call 23;refine(HCX.out _ (bt HB5.out (by assumption))).mono ?_;rintro e w7 ⟨rfl,hb7⟩;have hq:=bt (by assumption) hb7;clear g0 g1;obtain⟨g0,g1⟩:=HGB.out _ (bt HB5.out hq)) |(go_at_call 24;refine(HCF.out _ (bt HB5.out (by assumption))).mono ?_;rintro e w7 ⟨rfl,hb7⟩;have hq:=bt (by assumption) hb7;clear g0 g1;obtain⟨g0,g1⟩:=HGB.out _ (bt HB5.out hq)))
       go_meet
       exact⟨rfl,by assumption⟩
     case rest=>
      obtain⟨rfl,hb7⟩:=hcut
      have HB7:=hid hb7
      have HWC:=hid (bt HB5.out hb7)
      clear g0 g1 hb7 hb_e hb_i HBR
      obtain⟨g0,g1⟩:=HGB.out _ HWC.out
      go_wp2
      go_loopg [10] m (λk v10 wr=>∃j:Nat,j+k=m/\v10 = .int .i64 (j:Int)/\Below wc.heap.size wc wr)
      case atStart=>exact⟨0,Nat.zero_add _,rfl,Below.refl _ _⟩
      case round=>
       obtain⟨j,hj,rfl,hb8⟩:=hrel
       obtain⟨W8,rfl⟩:∃W8,W8=wr:=⟨_,rfl⟩
       have HB8:=hid (bt HWC.out hb8)
       have HB78:=hid hb8
       have HJK:=hid hj
       clear g0 g1
       obtain⟨g0,g1⟩:=HGB.out _ HB8.out
       by_cases hjl:j<m
       ·have hjz:(j:Int)<(m:Int):=by omega
        have hjt:j<(rchI xs).length:=by rw[HM.out];exact hjl
        obtain⟨ba,oa,rfl,hla,hca⟩:=HI5.out (by omega)
        have y:=((bt HB7.out hb8).cell (p:=⟨ba,oa+j,none⟩) hla).trans (hca j hjt)
        obtain⟨k2,hk2,hk3⟩:=(rchI_mem xs _).1 (List.getElem_mem hjt)
        rw[hk3]at y
        obtain⟨hk4,hk5⟩:=HALL.out k2 hk2
        obtain⟨K6,c6,-,-,x2,-⟩:=(HGR.out.below HB8.out).nd hk4
        rw[hk5]at x2
        have hk6:(k2:Int)<(NG:Int):=by have:=HNG.out.1;omega
        clear hca hla hk2 hk3 hk4 hk5 hj hb8 hjt
        go_upto_region 18 with(fail)
        go_quiet (fail)
        go_wp2
        go_roundg (m-(j+1))
        case measure=>have:=HJK.out;omega
        case rel=>exact⟨j+1,by omega,by go_num,Tk.below_drewN HB78.out _⟩
       ·obtain rfl:j=m:=by omega
        have hjz:¬(j:Int)<(j:Int):=by omega
        clear hj hb8
        go_wp2
        go_roundg (NG-(i+1))
        case measure=>have:=HGK.out;omega
        case rel=>exact⟨i+1,by omega,by go_num,HB8.out⟩
    ·obtain rfl:i=NG:=by omega
     have hiz:¬(i:Int)<(i:Int):=by omega
     have HE:=hid (bt HB3.out hb)
     clear hlt hi hb
     go_wp2
     go_ret
     exact⟨rfl,HE.out⟩
theorem flowEnds_w (A:Option Addr)(c:Nat)(l:List Tr.Nd)(r:Int)(w:World)(hE:Tk.Errs w)(hN:Nds w A l)(hnum:∀x ∈ l,x.n<=9223372036854775807)(hc:Caps w A l):Calls Tryz.prog 5 #[.agg #[.slice A l.length c,.int .i64 r]] w (VPost (.bool true) w):=flowEnds_any A c l.length l r w rfl hE hN hnum hc
end Go.Proofs.YtedkgofehbecmaaGreatDoor
namespace Go.Proofs.YtedkgofehbecmaaGreatDoor
open Go.Lib (hid)
open Go Go.ChangeShapes Go.WideShapes Go.ChangeAt Go.RowKit
set_option maxRecDepth 100000 in
theorem flowEnds_lifted (os:Os)(started:os.Started)(H:Type)(enc:TypeId × Value->H) :
  ReturnsInHanded {} Tryz.checked os 5 .any (λw args=>(Rows.flowEndsSpec.pre enc Tryz.prog Tryz.f5 [] false w args/\laidMetH Tryz.prog laid5 w)/\sizedMet enc Tryz.prog Tryz.f5 (OpenSpec.ofChange Rows.flowEndsSpec) false w args)
   (Rows.flowEndsSpec.post enc Tryz.prog Tryz.f5 false true false false):=by
 refine returnsInHanded_of_change_and (C:=Tryz.checked) (X:=λw _=>laidMetH Tryz.prog laid5 w) (λ_ _ _ hh h=>h.of_heap hh) ownK started (by kernel_rfl) Tryz.func5
  (ChangeSpec.witness_shaped (enc:=enc) (C:=Tryz.checked) (os:=os) (X:=λw _=>laidMetH Tryz.prog laid5 w) false (World.doorLaid Tryz.prog 62 os) #[.agg #[.slice none 0 0,.int .i64 0]] 8 rfl (World.shaped_of_RefB (by kernel_rfl) (by kernel_rfl)) (by kernel_rfl) (by kernel_rfl) (by kernel_rfl) (door_met os _)) ?_
 intro W base args ds gs before hval0 hW _ _ hL _
 have hval:∀(j:Nat) t v,Tryz.f5.params[j]?=some t->args[j]?=some v->Value.okWide Tryz.prog W .any base t v:=hval0
 have hW':=hW
 obtain⟨p,q,hA0,hV,rfl,hfz,hnd⟩:=hW
 have hA:DataW.TrodAll enc Tryz.prog W 0 (λ_=>true) true Tryz.f5.params.toList args.toList ds p:=hA0
 rw[Tryz.params5]at hA hval
 obtain⟨v0,vs0,d0,ds0,p0,q0,hargs,rfl,rfl,h0,r0⟩:=trodAll_cons hA
 obtain⟨rfl,rfl,rfl⟩:=trodAll_nil r0
 obtain rfl:args = #[v0]:=by cases args;simp_all
 obtain⟨rfl,rfl⟩:=trodVars_none hV
 have hT:=errs_of_laid hL
 clear hA0 hval0
 simp only[List.append_nil]at hW'
 have hlt:∀x ∈ p0,x.block<W.heap.size:=λx hx=>by simpa using hW'.lt x (by simpa using hx)
 obtain⟨A0,c0,l0,r0t,rfl,hN0,hc0,hm0,hC0⟩:=Vw.viewTr (hval 0 24 v0 rfl rfl) h0
 refine(flowEnds_w A0 c0 l0 r0t W hT hN0 hm0 hC0).mono ?_
 rintro e W' ⟨rfl,hnx⟩
 refine⟨_,rfl,_,_,_,[],_,[],hW',trodAll_cons_mk (shut_bool lit4 _) trodAll_mk0,trodAll_cons_mk (Below.trod laidOut (by kernel_rfl) (of_decide_eq_true (by kernel_rfl)) h0 hnx (λx hx=>hlt x (by simp[hx]))) trodAll_mk0,rfl,hnx.frame _,λh=>by cases h⟩
end Go.Proofs.YtedkgofehbecmaaGreatDoor
namespace Go.Proofs.YtedkgofehbecmaaGreatDoor
open Go.Lib (hid)
open Go Go.ChangeShapes Go.WideShapes Go.ChangeAt Go.RowKit
theorem flowEnds_and {a b:Bool}(h:a=true)(k:b=true):(a&&b)=true:=by rw[h,k];rfl
theorem flowEnds_k0:(Rows.flowEndsRow.wf (OpenSpec.ofChange Rows.flowEndsSpec))=true:=by kernel_rfl
theorem flowEnds_k1:(laidOutB Tryz.prog)=true:=by kernel_rfl
theorem flowEnds_k2:(mapsRowed Tryz.prog)=true:=by kernel_rfl
theorem flowEnds_k3:(Tryz.f5.params.all (Tryz.prog.readableRec ·))=true:=by kernel_rfl
theorem flowEnds_k4:(namedTie Tryz.prog Rows.flowEndsRow.named Rows.flowEndsSpec.vars)=true:=by kernel_rfl
theorem flowEnds_k5:((Rows.flowEndsRow.stops==[]))=true:=by kernel_rfl
theorem flowEnds_k6:((Tryz.prog.stops==[]))=true:=by kernel_rfl
theorem flowEnds_k7:((Rows.flowEndsRow.knobs==[]))=true:=by kernel_rfl
theorem flowEnds_k8:((Tryz.prog.stopKnobs==[]))=true:=by kernel_rfl
theorem flowEnds_k9:((Rows.flowEndsRow.inPlace==Tryz.prog.inPlace 5))=true:=by kernel_rfl
theorem flowEnds_k10:((Rows.flowEndsRow.unfollowed==Tryz.prog.unfollowed 5))=true:=by kernel_rfl
theorem flowEnds_k11:((Rows.flowEndsRow.recurses==Tryz.prog.recurses 5))=true:=by kernel_rfl
theorem flowEnds_k12:((Rows.flowEndsRow.named==Tryz.prog.varsNamed 5))=true:=by kernel_rfl
theorem flowEnds_k13:((Rows.flowEndsRow.maps==(Tryz.f5.params.toList++Rows.flowEndsSpec.plain.varTypes Tryz.prog).any (Tryz.prog.mapsRec ·)))=true:=by kernel_rfl
theorem flowEnds_k14:((Rows.flowEndsRow.ifaces==(Tryz.f5.params.toList++Rows.flowEndsSpec.plain.varTypes Tryz.prog).any (Tryz.prog.ifacesRec ·)))=true:=by kernel_rfl
theorem flowEnds_k15:((Rows.flowEndsRow.mapsOut==Tryz.prog.mapsAmong Tryz.f5.resultTypes.toList))=true:=by kernel_rfl
theorem flowEnds_k16:((Rows.flowEndsRow.loops==(Tryz.f5.params.toList++Rows.flowEndsSpec.plain.varTypes Tryz.prog).any (Tryz.prog.loopsFrom ·)))=true:=by kernel_rfl
theorem flowEnds_k17:((Rows.flowEndsRow.wideKeys==(Tryz.f5.params.toList++Rows.flowEndsSpec.plain.varTypes Tryz.prog++Tryz.f5.resultTypes.toList).any (Tryz.prog.wideKeysFrom ·)))=true:=by kernel_rfl
theorem flowEnds_k18:(Rows.flowEndsSpec.vars.all (Tryz.prog.varReadable ·))=true:=by kernel_rfl
theorem flowEnds_k19:(Tryz.f5.resultTypes.all (λt=>Tryz.prog.readableRec t&&decide (t<Tryz.prog.types.size)))=true:=by kernel_rfl
theorem flowEnds_k20:((Rows.flowEndsRow.ifacesOut==Tryz.f5.resultTypes.toList.any (Tryz.prog.ifacesRec ·)))=true:=by kernel_rfl
theorem flowEnds_k21:((Rows.flowEndsRow.loopsOut==Tryz.f5.resultTypes.toList.any (Tryz.prog.loopsFrom ·)))=true:=by kernel_rfl
theorem flowEnds_k22:((Rows.flowEndsRow.plainKeys==Tryz.prog.plainKeys))=true:=by kernel_rfl
theorem flowEnds_k23:(Rows.flowEndsRow.shortTexts.isNone)=true:=by kernel_rfl
theorem flowEnds_k24:(Tryz.prog.stopsHeard)=true:=by kernel_rfl
theorem flowEnds_k25:(Tryz.prog.mayEnter)=true:=by kernel_rfl
theorem flowEnds_k26:((Rows.flowEndsRow.lifted==Tryz.prog.liftsFinal))=true:=by kernel_rfl
theorem flowEnds_k27:((Tryz.prog.make==some Rows.flowEndsRow.make))=true:=by kernel_rfl
theorem flowEnds_k28:((Rows.flowEndsRow.kinds==(if Rows.flowEndsRow.domain.isEmpty then [] else Tryz.f5.params.toList.map λt=>match Tryz.prog.underlying t with|some (.int k)=>some k |_=>none)))=true:=by kernel_rfl
theorem flowEnds_k29:((Rows.flowEndsRow.pinned==Rows.flowEndsRow.pinnedBy))=true:=by kernel_rfl
theorem flowEnds_k30:((Rows.flowEndsRow.veiled==(Tryz.f5.params.toList++Rows.flowEndsSpec.plain.varTypes Tryz.prog++Tryz.f5.resultTypes.toList).any (Tryz.prog.veiledRec ·)))=true:=by kernel_rfl
theorem flowEnds_k31:(Rows.flowEndsRow.veiledFits Tryz.prog Tryz.f5.params.toList (Tryz.f5.params.toList++Rows.flowEndsSpec.plain.varTypes Tryz.prog++Tryz.f5.resultTypes.toList))=true:=by kernel_rfl
theorem flowEnds_kn:Tryz.prog.funcNamed "runnel/runnellaw8.FlowEnds" = some 5:=by kernel_rfl
theorem flowEnds_inst:Tryz.f5.isInstance Tryz.prog Rows.flowEndsRow.origin Rows.flowEndsRow.targs:=of_decide_eq_true (by kernel_rfl)
theorem flowEnds_wrap:Tryz.f5.isWrapper Tryz.prog Rows.flowEndsRow.wrapper Rows.flowEndsRow.mainSum:=by
 unfold Func.isWrapper
 first
  |(rw[if_pos (by decide +kernel)];kernel_rfl)
  |(rw[if_neg (by decide +kernel)];exact⟨rfl,rfl⟩)
end Go.Proofs.YtedkgofehbecmaaGreatDoor
namespace Go.Proofs.YtedkgofehbecmaaGreatDoor
open Go.Lib (hid)
open Go Go.ChangeShapes Go.WideShapes Go.ChangeAt Go.RowKit
set_option maxRecDepth 100000 in
theorem flowEnds_closed:joinedFacts Tryz.prog 5 Tryz.f5 Rows.flowEndsSpec Rows.flowEndsRow=true:=(flowEnds_and (flowEnds_and (flowEnds_and (flowEnds_and (flowEnds_and (flowEnds_and (flowEnds_and (flowEnds_and (flowEnds_and (flowEnds_and (flowEnds_and (flowEnds_and (flowEnds_and (flowEnds_and (flowEnds_and (flowEnds_and (flowEnds_and (flowEnds_and (flowEnds_and (flowEnds_and (flowEnds_and (flowEnds_and (flowEnds_and (flowEnds_and (flowEnds_and (flowEnds_and (flowEnds_and (flowEnds_and (flowEnds_and (flowEnds_and (flowEnds_and flowEnds_k0 flowEnds_k1) flowEnds_k2) flowEnds_k3) flowEnds_k4) flowEnds_k5) flowEnds_k6) flowEnds_k7) flowEnds_k8) flowEnds_k9) flowEnds_k10) flowEnds_k11) flowEnds_k12) flowEnds_k13) flowEnds_k14) flowEnds_k15) flowEnds_k16) flowEnds_k17) flowEnds_k18) flowEnds_k19) flowEnds_k20) flowEnds_k21) flowEnds_k22) flowEnds_k23) flowEnds_k24) flowEnds_k25) flowEnds_k26) flowEnds_k27) flowEnds_k28) flowEnds_k29) flowEnds_k30) flowEnds_k31)
set_option maxRecDepth 100000 in
set_option maxHeartbeats 4000000 in
theorem flowEnds_row:Rows.FlowEndsSaid:=
 OpenClaim.holds_of_wide 5 Tryz.f5 rfl rfl rfl rfl rfl rfl rfl ⟨rfl,rfl,rfl,rfl,rfl⟩ rfl rfl rfl rfl rfl flowEnds_kn Tryz.func5 flowEnds_closed flowEnds_inst flowEnds_wrap
  (λos started H enc _=>flowEnds_lifted os started H enc)
end Go.Proofs.YtedkgofehbecmaaGreatDoor
