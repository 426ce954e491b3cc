/- PROVED here: parts N26 of the claim. No condition but those in each theorem's own head. -/
import Derived.Test.YtedkgofehbecmaaGreatDoorU04
import Derived.Test.YtedkgofehbecmaaGreatDoorU03
namespace Go.Proofs.YtedkgofehbecmaaGreatDoor.Tr
open Go.Lib (hid)
open Go Go.RowKit
def paL (l:List Nd)(r:Nat):Nat->Nat->Int
 |0=>λj=>if j=r then -1 else 0
 |n+1=>λj=>if (j:Int) ∈ kidsAt l n then (n:Int) else paL l r n j
def IsPost (l:List Int)(w:World)(e:Ending)(w':World):Prop:=∃A c,e = .returned (.slice A l.length c)/\Ints w' A l/\Below w.heap.size w w'
open Classical in
noncomputable def par (l:List Nd)(r:Int):List Int:=if Snd l r then (List.range l.length).map (paL l (l.length-1) l.length) else []
open Classical in
theorem par_yes {l:List Nd}{r:Int}(h:Snd l r):par l r=(List.range l.length).map (paL l (l.length-1) l.length):=if_pos h
open Classical in
theorem par_no {l:List Nd}{r:Int}(h:¬Snd l r):par l r=[]:=if_neg h
set_option maxRecDepth 100000 in
set_option maxHeartbeats 1500000 in
theorem parents_no (A:Option Addr)(c n:Nat)(l:List Nd)(r:Int)(w:World)(hN:Nds w A l)(hn:n=l.length)(hk:∀x ∈ l,x.ks.length<=4000)(h:¬Snd l r):Calls Tryz.prog 96 #[.agg #[.slice A n c,.int .i64 r]] w (IsPost [] w):=by
 have hb:Below w.heap.size w (w.alloc (.cells #[.slice A n c,.int .i64 r] 24)):=heap1 _ _
 have HS:=hid (sound_any A c n l r _ (hN.below hb) hn hk)
 rw[sndB_false h]at HS
 clear hN hk h hn
 go_enter Tryz.func96,Tryz.ntmps96
 go_wp2_with (go_at_call 71;refine HS.out.mono ?_;rintro e w1 ⟨rfl,hb1⟩)
 go_ret
 exact⟨none,0,rfl,λh=>absurd h (Nat.lt_irrefl 0),bt hb hb1⟩
set_option maxRecDepth 100000 in
set_option maxHeartbeats 1500000 in
theorem parents_yes (A:Option Addr)(c n:Nat)(l:List Nd)(r:Int)(w:World)(hN:Nds w A l)(hn:n=l.length)(hk:∀x ∈ l,x.ks.length<=4000)(h:Snd l r):Calls Tryz.prog 96 #[.agg #[.slice A n c,.int .i64 r]] w (IsPost (par l r) w):=by
 rw[par_yes h,<- hn]
 have hb:Below w.heap.size w (w.alloc (.cells #[.slice A n c,.int .i64 r] 24)):=heap1 _ _
 have HS:=hid (sound_any A c n l r _ (hN.below hb) hn hk)
 rw[sndB_true h]at HS
 have HN:=hid hN
 have HL:=hid hn
 have HK:=hid hk
 obtain⟨b,hS⟩:=h
 obtain⟨h1,h2,h3,h4,h5⟩:=hS
 rw[<- hn]at h1 h2 h3 h4
 obtain⟨n',hn'⟩:∃n',n'=n-1:=⟨_,rfl⟩
 have hr:r=(n':Int):=by omega
 have hnn:n'<n:=by omega
 rw[<- hn']
 clear hn'
 subst hr
 have HU:=hid h4
 clear hN hk hn h4 h3 h5
 go_enter Tryz.func96,Tryz.ntmps96
 go_wp2_with (go_at_call 71;refine HS.out.mono ?_)
 rintro e w1 ⟨rfl,hb1⟩
 clear HS
 have e0:∀(w':World) (o:Obj),(w'.alloc o).heap.size=w'.heap.size+1:=λw' o=>World.size_alloc w' o
 have hbb:=bt hb hb1
 have hz:w.heap.size<w1.heap.size:=by have:=hb1.size;rw[e0]at this;omega
 have hB:Bx w1 w.heap.size 24 [.slice A n c,.int .i64 (n':Int)]:=(Bx.new w 24 _).below hb1 (by rw[e0];omega)
 clear hb hb1
 have hB1:=hB.alloc (.cells (mkI n λ_=>0) 3)
 have hct0:=hB.cell 0
 have hdt0:=hB1.cell 0
 have hdt1:=hB1.cell 1
 simp only[List.getElem?_cons_zero,List.getElem?_cons_succ]at hct0 hdt0 hdt1
 have hG0:Ib (w1.alloc (.cells (mkI n λ_=>0) 3)) w1.heap.size n (λ_=>0):=World.alloc_heap_new _ _
 have hcg:=hG0.cell hnn
 have hfg:=hG0.frozen n'
 have hmk:=λw'=>make22 n (by omega) w'
 clear hG0
 go_upto_region 5 with(fail)
 refine gen_world (λW=>Bx W w.heap.size 24 [.slice A n c,.int .i64 (n':Int)]/\Ib W w1.heap.size n (λj=>paL l n' 0 j)/\Below w.heap.size w W) ?_ ?_
 ·refine⟨hB.alloc _,?_,hbb.alloc hbb.size _⟩
  rw[mkI_set]
  exact World.alloc_heap_new _ _
 clear hmk hct0 hdt0 hdt1 hcg hfg hB hB1 hbb
 rintro W0 ⟨hB,hG,hbb⟩
 have hct0:=hB.cell 0
 simp only[List.getElem?_cons_zero]at hct0
 go_wp2
 clear hct0
 go_loopw [22] (λi wr=>∃p:Nat,p<=n/\i = .int .i64 (p:Int)/\Ib wr w1.heap.size n (λj=>paL l n' p j)/\Below w.heap.size w wr) (λi _=>n-(intOf i).toNat)
 case atStart=>exact⟨0,Nat.zero_le _,rfl,hG,hbb⟩
 case round=>
  clear hbb hB hG
  obtain⟨p,hp,rfl,hG,hbw⟩:=hrel
  obtain⟨W1,rfl⟩:∃W1,W1=wr:=⟨_,rfl⟩
  by_cases hlt:p<n
  ·have hlz:(p:Int)<(n:Int):=by omega
   have hpl:p<l.length:=by rw[<- HL.out];exact hlt
   obtain⟨bA,off,rfl,hbl,hc⟩:=HN.out (by omega)
   obtain⟨K,ck,c0,c1,c2,c3,c4,hI⟩:=hc p hpl
   have c0:=(hbw.cell (p:=⟨bA,off+p*5,none⟩) hbl).trans c0
   have c1:=(hbw.cell (p:=⟨bA,off+p*5+1,none⟩) hbl).trans c1
   have c2:=(hbw.cell (p:=⟨bA,off+p*5+2,none⟩) hbl).trans c2
   have c3:=(hbw.cell (p:=⟨bA,off+p*5+3,none⟩) hbl).trans c3
   have c4:=(hbw.cell (p:=⟨bA,off+p*5+4,none⟩) hbl).trans c4
   have hks:l[p].ks.length<=4000:=HK.out _ (List.getElem_mem _)
   have hkid:∀j (hj:j<l[p].ks.length),∃m:Nat,l[p].ks[j]=m/\m<p:=λj hj=>by
    obtain⟨m,e,hm,_⟩:=HU.out.kid hlt (k:=l[p].ks[j]) (by rw[kidsAt_eq hpl];exact List.getElem_mem _)
    exact⟨m,e,hm⟩
   have HKID:=hid hkid
   have HKA:=hid (kidsAt_eq hpl)
   clear hc hkid
   generalize l[p]=x at *
   obtain⟨kd,nn,pl,tx,ks⟩:=x
   dsimp only at c0 c1 c2 c3 c4 hI hks HKA HKID
   have hzW:w1.heap.size<W1.heap.size:=hG.lt
   go_wp2
   go_loopw [30] (λi wr=>∃j:Nat,j<=ks.length/\i = .int .i64 (j:Int)/\Ib wr w1.heap.size n (λq=>if (q:Int) ∈ ks.take j then (p:Int) else paL l n' p q)/\Below w.heap.size w wr) (λi _=>ks.length-(intOf i).toNat)
   case atStart=>exact⟨0,Nat.zero_le _,rfl,(hG.alloc _).congr λi _=>by simp,hbw.alloc hbw.size _⟩
   case round=>
    obtain⟨j,hj,rfl,hG2,hb2⟩:=hrel
    by_cases hjl:j<ks.length
    ·have hjz:(j:Int)<(ks.length:Int):=by omega
     obtain⟨bK,oK,rfl,hbK,hcK⟩:=hI (by omega)
     obtain⟨m,hm,hmp⟩:=HKID.out j hjl
     have hck:=(hb2.cell (p:=⟨bK,oK+j,none⟩) hbK).trans (hcK j hjl)
     rw[hm]at hck
     have hmn:m<n:=by omega
     have hcg:=hG2.cell hmn
     have hfg:=hG2.frozen m
     have HM:=hid hm
     clear hcK hm
     generalize (if (m:Int) ∈ ks.take j then (p:Int) else paL l n' p m)=old at hcg
     go_wp2
     go_roundw
     case rel=>
      refine⟨j+1,by omega,by go_num,(hG2.set_ m _).congr λq _ =>?_,hb2.setCell (p:=⟨w1.heap.size,m,none⟩) (by show _<=w1.heap.size;omega) _⟩
      rw[List.take_succ_eq_append_getElem hjl,HM.out]
      by_cases e:q=m
      ·subst e;simp
      ·have:¬(q:Int)=(m:Int):=by omega
       simp[e,this]
     case measure=>simp[intOf];omega
    ·obtain rfl:j=ks.length:=by omega
     have hjz:¬(ks.length:Int)<(ks.length:Int):=by omega
     go_wp2
     go_roundw
     case rel=>
      refine⟨p+1,by omega,by go_num,hG2.congr λq _ =>?_,hb2⟩
      show _=(if (q:Int) ∈ kidsAt l p then (p:Int) else paL l n' p q)
      rw[HKA.out,List.take_length]
     case measure=>simp[intOf];omega
  ·obtain rfl:p=n:=by omega
   have hlz:¬(p:Int)<(p:Int):=by omega
   go_wp2
   go_ret
   exact⟨some ⟨w1.heap.size,0,none⟩,p,by simp,hG.ints,hbw⟩
theorem parents_any (A:Option Addr)(c n:Nat)(l:List Nd)(r:Int)(w:World)(hN:Nds w A l)(hn:n=l.length)(hk:∀x ∈ l,x.ks.length<=4000):Calls Tryz.prog 96 #[.agg #[.slice A n c,.int .i64 r]] w (IsPost (par l r) w):=by
 by_cases h:Snd l r
 ·exact parents_yes A c n l r w hN hn hk h
 ·rw[par_no h];exact parents_no A c n l r w hN hn hk h
theorem stK_count {b:Nat->Nat}(k:Int):∀(ks:List Int) (s e:Nat),(∀q,q<s->b q<=q)->stK b ks s=some e->ks.count k<=1
 | [],_,_,_,_=>by simp
 |x :: ks,s,e,hb,h=>by
  unfold stK at h
  split at h
  ·cases h
  split at h
  case isFalse=>cases h
  case isTrue h0 h1=>
   have h2:=hb (s-1) (by omega)
   have hb':∀q,q<b (s-1)->b q<=q:=λq hq=>hb q (by omega)
   rw[List.count_cons]
   by_cases e1:x=k
   ·have h3:ks.count k=0:=List.count_eq_zero.2 λhm=>by
     obtain⟨m,e2,e3,_⟩:=stK_mem ks _ e hb' h k hm
     omega
    rw[h3];split<;>omega
   ·have:=stK_count k ks _ e hb' h
    have e2:(x==k)=false:=by simpa using e1
    rw[e2];simpa using this
theorem StU.count {l:List Nd}{b:Nat->Nat}{n p:Nat}(h:StU l b n)(hp:p<n){k:Int}(hk:k ∈ kidsAt l p):(kidsAt l p).count k=1:=by
 have h1:=stK_count k _ p _ (λq hq=>h.le q (by omega)) (h p hp)
 rw[List.count_reverse]at h1
 have h2:=List.count_pos_iff.2 hk
 omega
theorem StU.parent {l:List Nd}{b:Nat->Nat}{n:Nat}(h:StU l b n):∀p,p<n->∀q,b p<=q->q<p->∃m,m<=p/\(q:Int) ∈ kidsAt l m:=by
 intro p
 induction p using Nat.strongRecOn with
 |_ p ih=>
  intro hp q h1 h2
  obtain⟨m,e1,e2,e3,e4⟩:=h.inKid hp h1 h2
  by_cases e:q=m
  ·subst e;exact⟨p,Nat.le_refl _,e1⟩
  ·obtain⟨m',h3,h4⟩:=ih m e4 (by omega) q e2 (by omega)
   exact⟨m',by omega,h4⟩
theorem paL_some {l:List Nd}{r:Nat}{q:Nat}:∀ {n:Nat},(∃m,m<n/\(q:Int) ∈ kidsAt l m)->∃m:Nat,m<n/\(q:Int) ∈ kidsAt l m/\paL l r n q=(m:Int)
 |0,⟨m,hm,_⟩=>absurd hm (Nat.not_lt_zero m)
 |n+1,⟨m,hm,hk⟩=>by
  by_cases e:(q:Int) ∈ kidsAt l n
  ·exact⟨n,by omega,e,if_pos e⟩
  ·have:m≠n:=λe'=>e (e'▸hk)
   obtain⟨m',h1,h2,h3⟩:=paL_some (r:=r) (n:=n) ⟨m,by omega,hk⟩
   exact⟨m',by omega,h2,(if_neg e).trans h3⟩
theorem par_node {l:List Nd}{b:Nat->Nat}{n i:Nat}(h:StU l b n)(h0:b (n-1)=0)(hi:i<n-1):∃m:Nat,m<n/\i<m/\paL l (n-1) n i=(m:Int)/\(kidsAt l m).count (i:Int)=1:=by
 obtain⟨m,h1,h2⟩:=h.parent (n-1) (by omega) i (by omega) hi
 obtain⟨m,h3,h4,h5⟩:=paL_some (r:=n-1) (n:=n) ⟨m,by omega,h2⟩
 obtain⟨m',e,h6,_⟩:=h.kid h3 h4
 exact⟨m,h3,by omega,h5,h.count h3 h4⟩
end Go.Proofs.YtedkgofehbecmaaGreatDoor.Tr
