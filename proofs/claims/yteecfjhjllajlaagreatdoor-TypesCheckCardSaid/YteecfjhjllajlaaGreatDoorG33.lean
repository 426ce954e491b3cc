/- PROVED: TrRrB. No more condition. -/
import Derived.Test.YteecfjhjllajlaaGreatDoorG32
namespace Go.Proofs.YteecfjhjllajlaaGreatDoor.Tr
open Go.Lib (hid)
section
set_option maxHeartbeats 1500000
set_option maxRecDepth 100000
open Go Go.RowKit
theorem xK (A:Option Addr)(c n:Nat)(l:List Nd)(r:Int)(w:World)(hN:bu w A l)(hn:n=l.length)(hk:∀x ∈ l,x.ks.length<=4000)(h:¬gF l r):Calls Tryz.prog 152 #[.agg #[.slice A n c,.int .i64 r]] w (gJ [] w):=by
 have hb:Below w.heap.size w (w.alloc (.cells #[.slice A n c,.int .i64 r] 25)):=ag _ _;have HS:=hid (jw A c n l r _ (hN.below hb) hn hk);rw[dK h]at HS;clear hN hk h hn;go_enter Tryz.func152,Tryz.ntmps152
 go_wp2_with (go_at_call 67;refine HS.out.mono ?_;rintro e w1 ⟨rfl,hb1⟩)
 go_ret
 exact⟨none,0,rfl,λh=>absurd h (Nat.lt_irrefl 0),bt hb hb1⟩
theorem vK (A:Option Addr)(c n:Nat)(l:List Nd)(r:Int)(w:World)(hN:bu w A l)(hn:n=l.length)(hk:∀x ∈ l,x.ks.length<=4000)(h:gF l r):Calls Tryz.prog 152 #[.agg #[.slice A n c,.int .i64 r]] w (gJ (par l r) w):=by
 rw[gL h,<- hn];have hb:Below w.heap.size w (w.alloc (.cells #[.slice A n c,.int .i64 r] 25)):=ag _ _;have HS:=hid (jw A c n l r _ (hN.below hb) hn hk);rw[dF h]at HS;have HN:=hid hN;have HL:=hid hn;have HK:=hid hk;obtain⟨b,hS⟩:=h;obtain⟨h1,h2,h3,h4,h5⟩:=hS;rw[<- hn]at h1 h2 h3 h4;obtain⟨n',hn'⟩:∃n',n'=n-1:=⟨_,rfl⟩;have hr:r=(n':Int):=by omega
 have hnn:n'<n:=by omega
 rw[<- hn'];clear hn';subst hr;have HU:=hid h4;clear hN hk hn h4 h3 h5;go_enter Tryz.func152,Tryz.ntmps152
 go_wp2_with (go_at_call 67;refine HS.out.mono ?_);rintro e w1 ⟨rfl,hb1⟩;clear HS;have e0:∀(w':World) (o:Obj),(w'.alloc o).heap.size=w'.heap.size+1:=λw' o=>World.size_alloc w' o
 have hbb:=bt hb hb1;have hz:w.heap.size<w1.heap.size:=by have:=hb1.size;rw[e0]at this;omega
 have hB:Bx w1 w.heap.size 25 [.slice A n c,.int .i64 (n':Int)]:=(Bx.new w 25 _).below hb1 (by rw[e0];omega);clear hb hb1;have hB1:=hB.alloc (.cells (p_ n λ_=>0) 3);have hct0:=hB.cell 0;have hdt0:=hB1.cell 0;have hdt1:=hB1.cell 1;simp only[List.getElem?_cons_zero,List.getElem?_cons_succ]at hct0 hdt0 hdt1;have hG0:Ib (w1.alloc (.cells (p_ n λ_=>0) 3)) w1.heap.size n (λ_=>0):=World.alloc_heap_new _ _;have hcg:=hG0.cell hnn;have hfg:=hG0.frozen n';have hmk:=λw'=>ku n (by omega) w'
 clear hG0
 go_upto_region 6 with(fail)
 refine ak (λW=>Bx W w.heap.size 25 [.slice A n c,.int .i64 (n':Int)]/\Ib W w1.heap.size n (λj=>qp l n' 0 j)/\Below w.heap.size w W) ?_ ?_
 ·refine⟨hB.alloc _,?_,hbb.alloc hbb.size _⟩;rw[zh];exact World.alloc_heap_new _ _
 clear hmk hct0 hdt0 hdt1 hcg hfg hB hB1 hbb;rintro W0 ⟨hB,hG,hbb⟩;go_wp2
 go_loopw [5] (λi wr=>∃p:Nat,p<=n/\i=.int .i64 (p:Int)/\Ib wr w1.heap.size n (λj=>qp l n' p j)/\Bx wr w.heap.size 25 [.slice A n c,.int .i64 (n':Int)]/\Below w.heap.size w wr) (λi _=>n-(intOf i).toNat)
 case atStart=>exact⟨0,Nat.zero_le _,rfl,hG,hB,hbb⟩
 case round=>
  clear hbb hB hG;obtain⟨p,hp,rfl,hG,hB,hbw⟩:=hrel;obtain⟨W1,rfl⟩:∃W1,W1=wr:=⟨_,rfl⟩;have d0:=hB.cell 0;simp only[List.getElem?_cons_zero]at d0;by_cases hlt:p<n
  ·have hlz:(p:Int)<(n:Int):=by omega
   have hpl:p<l.length:=by rw[<- HL.out];exact hlt
   obtain⟨bA,off,rfl,hbl,hc⟩:=HN.out (by omega);obtain⟨K,ck,_,_,_,_,c4',hI⟩:=hc p hpl;have hks:l[p].ks.length<=4000:=HK.out _ (List.getElem_mem _);have hkid:∀j (hj:j<l[p].ks.length),∃m:Nat,l[p].ks[j]=m/\m<p:=λj hj=>by
    obtain⟨m,e,hm,_⟩:=HU.out.kid hlt (k:=l[p].ks[j]) (by rw[aQ hpl];exact List.getElem_mem _);exact⟨m,e,hm⟩
   have HKID:=hid hkid;have HKA:=hid (aQ hpl);clear hc hkid;generalize l[p]=x at *
   obtain⟨kd,nn,pl,tx,ks⟩:=x;dsimp only at c4' hI hks HKA HKID;have hzW:w1.heap.size<W1.heap.size:=hG.lt;go_wp2;clear d0
   go_loopw [6] (λi wr=>∃j:Nat,j<=ks.length/\i=.int .i64 (j:Int)/\Ib wr w1.heap.size n (λq=>if (q:Int) ∈ ks.take j then (p:Int) else qp l n' p q)/\Bx wr w.heap.size 25 [.slice (some ⟨bA,off,none⟩) n c,.int .i64 (n':Int)]/\Below w.heap.size w wr) (λi _=>ks.length-(intOf i).toNat)
   case atStart=>exact⟨0,Nat.zero_le _,rfl,hG.congr λi _=>by simp,hB,hbw⟩
   case round=>
    obtain⟨j,hj,rfl,hG2,hB2,hb2⟩:=hrel;have d0:=hB2.cell 0;simp only[List.getElem?_cons_zero]at d0;have c4:=(hb2.cell (p:=⟨bA,off+p*5+4,none⟩) hbl).trans c4';by_cases hjl:j<ks.length
    ·have hjz:(j:Int)<(ks.length:Int):=by omega
     obtain⟨bK,oK,rfl,hbK,hcK⟩:=hI (by omega);obtain⟨m,hm,hmp⟩:=HKID.out j hjl;have hck:=(hb2.cell (p:=⟨bK,oK+j,none⟩) hbK).trans (hcK j hjl);rw[hm]at hck;have hmn:m<n:=by omega
     have hcg:=hG2.cell hmn;have hfg:=hG2.frozen m;have HM:=hid hm;clear hcK hm;generalize (if (m:Int) ∈ ks.take j then (p:Int) else qp l n' p m)=old at hcg;go_wp2
     go_roundw
     case rel=>
      refine⟨j+1,by omega,by go_num,(hG2.set_ m _).congr λq _ =>?_,hB2.far (by show w.heap.size≠w1.heap.size;omega) _,hb2.setCell (p:=⟨w1.heap.size,m,none⟩) (by show _<=w1.heap.size;omega) _⟩;rw[List.take_succ_eq_append_getElem hjl,HM.out];by_cases e:q=m
      ·subst e;simp
      ·have:¬(q:Int)=(m:Int):=by omega
       simp[e,this]
     case measure=>simp[intOf];omega
    ·obtain rfl:j=ks.length:=by omega
     have hjz:¬(ks.length:Int)<(ks.length:Int):=by omega
     go_wp2
     go_roundw
     case rel=>
      refine⟨p+1,by omega,by go_num,hG2.congr λq _ =>?_,hB2,hb2⟩;show _=(if (q:Int) ∈ aA l p then (p:Int) else qp l n' p q);rw[HKA.out,List.take_length]
     case measure=>simp[intOf];omega
  ·obtain rfl:p=n:=by omega
   have hlz:¬(p:Int)<(p:Int):=by omega
   go_wp2
   go_ret
   exact⟨some ⟨w1.heap.size,0,none⟩,p,by simp,hG.ints,hbw⟩
theorem vL (A:Option Addr)(c n:Nat)(l:List Nd)(r:Int)(w:World)(hN:bu w A l)(hn:n=l.length)(hk:∀x ∈ l,x.ks.length<=4000):Calls Tryz.prog 152 #[.agg #[.slice A n c,.int .i64 r]] w (gJ (par l r) w):=by
 by_cases h:gF l r
 ·exact vK A c n l r w hN hn hk h
 ·rw[JR h];exact xK A c n l r w hN hn hk h
theorem Bq (A:Option Addr)(c n:Nat)(l:List Nd)(r:Int)(w:World)(hN:bu w A l)(hn:n=l.length)(hk:∀x ∈ l,x.ks.length<=4000)(h:¬gF l r):Calls Tryz.prog 68 #[.agg #[.slice A n c,.int .i64 r]] w (az 0 w):=by
 have hb:Below w.heap.size w (w.alloc (.cells #[.slice A n c,.int .i64 r] 25)):=ag _ _;have HS:=hid (jw A c n l r _ (hN.below hb) hn hk);rw[dK h]at HS;clear hN hk h hn;go_enter Tryz.func68,Tryz.ntmps68
 go_wp2_with (go_at_call 67;refine HS.out.mono ?_;rintro e w1 ⟨rfl,hb1⟩)
 go_ret
 exact⟨rfl,bt hb hb1⟩
theorem yZ (A:Option Addr)(c n:Nat)(l:List Nd)(r:Int)(w:World)(hN:bu w A l)(hn:n=l.length)(hk:∀x ∈ l,x.ks.length<=4000)(h:gF l r):Calls Tryz.prog 68 #[.agg #[.slice A n c,.int .i64 r]] w (az (iU l n (n-1):Int) w):=by
 have hb:Below w.heap.size w (w.alloc (.cells #[.slice A n c,.int .i64 r] 25)):=ag _ _;have HS:=hid (jw A c n l r _ (hN.below hb) hn hk);rw[dF h]at HS;have HN:=hid hN;have HL:=hid hn;have HK:=hid hk;obtain⟨b,hS⟩:=h;obtain⟨h1,h2,h3,h4,h5⟩:=hS;rw[<- hn]at h1 h2 h3 h4;obtain⟨n',hn'⟩:∃n',n'=n-1:=⟨_,rfl⟩;have hr:r=(n':Int):=by omega
 have hnn:n'<n:=by omega
 rw[<- hn'];clear hn';subst hr;have HU:=hid h4;clear hN hk hn h4 h3 h5;go_enter Tryz.func68,Tryz.ntmps68
 go_wp2_with (go_at_call 67;refine HS.out.mono ?_);rintro e w1 ⟨rfl,hb1⟩;clear HS;have e0:∀(w':World) (o:Obj),(w'.alloc o).heap.size=w'.heap.size+1:=λw' o=>World.size_alloc w' o
 have hbb:=bt hb hb1;have hz:w.heap.size<w1.heap.size:=by have:=hb1.size;rw[e0]at this;omega
 have hB:Bx w1 w.heap.size 25 [.slice A n c,.int .i64 (n':Int)]:=(Bx.new w 25 _).below hb1 (by rw[e0];omega);clear hb hb1;have hct0:=hB.cell 0;simp only[List.getElem?_cons_zero]at hct0;have hmk:=λw'=>ku n (by omega) w'
 go_wp2;clear hmk hct0
 go_loopw [5] (λi wr=>∃p:Nat,p<=n/\i=.int .i64 (p:Int)/\Bx wr w.heap.size 25 [.slice A n c,.int .i64 (n':Int)]/\Ib wr w1.heap.size n (λj=>(iU l p j:Int))/\Below w.heap.size w wr) (λi _=>n-(intOf i).toNat)
 case atStart=>exact⟨0,Nat.zero_le _,rfl,hB.alloc _,World.alloc_heap_new _ _,hbb.alloc hbb.size _⟩
 case round=>
  clear hbb hB;obtain⟨p,hp,rfl,hB,hG,hbw⟩:=hrel;have hct0:=hB.cell 0;have hct1:=hB.cell 1;simp only[List.getElem?_cons_zero,List.getElem?_cons_succ]at hct0 hct1;by_cases hlt:p<n
  ·have hlz:(p:Int)<(n:Int):=by omega
   have hpl:p<l.length:=by rw[<- HL.out];exact hlt
   obtain⟨bA,off,rfl,hbl,hc⟩:=HN.out (by omega);obtain⟨K,ck,_,_,_,_,c4',hI⟩:=hc p hpl;have hks:l[p].ks.length<=4000:=HK.out _ (List.getElem_mem _);have hkid:∀j (hj:j<l[p].ks.length),∃m:Nat,l[p].ks[j]=m/\m<p:=λj hj=>by
    obtain⟨m,e,hm,_⟩:=HU.out.kid hlt (k:=l[p].ks[j]) (by rw[aQ hpl];exact List.getElem_mem _);exact⟨m,e,hm⟩
   have HKID:=hid hkid;have HKA:=hid (aQ hpl);clear hc hkid;generalize l[p]=x at *
   obtain⟨kd,nn,pl,tx,ks⟩:=x;dsimp only at c4' hI hks HKA HKID;obtain⟨f,hf⟩:∃f:Nat->Nat,f=λj=>(ks.take j).foldl (λa k=>max a (iU l p k.toNat)) 0:=⟨_,rfl⟩
   have HF:=hid hf;have HF0:=hid (show f 0=0 by rw[hf];rfl);clear hf;have hcg:=hG.cell hlt;have hfg:=hG.frozen p;generalize (iU l p p:Int)=old at hcg;have hzG:w1.heap.size<wr.heap.size:=hG.lt;go_wp2;clear hcg hfg hct0 hct1
   go_loopw [6] (λi ws=>∃j:Nat,j<=ks.length/\i=.int .i64 (j:Int)/\Ib ws w1.heap.size n (λq=>if q=p then (f j:Int)+1 else (iU l p q:Int))/\Bx ws w.heap.size 25 [.slice (some ⟨bA,off,none⟩) n c,.int .i64 (n':Int)]/\Below w.heap.size w ws) (λi _=>ks.length-(intOf i).toNat)
   case atStart=>
    refine⟨0,Nat.zero_le _,rfl,(hG.set_ p _).congr λq _ =>?_,hB.far (by show w.heap.size≠w1.heap.size;omega) _,hbw.setCell (p:=⟨w1.heap.size,p,none⟩) (by show _<=w1.heap.size;omega) _⟩;rw[HF0.out];rfl
   case round=>
    clear hG hB hbw hzG;obtain⟨j,hj,rfl,hG2,hB2,hb2⟩:=hrel;have d0:=hB2.cell 0;simp only[List.getElem?_cons_zero]at d0;have c4:=(hb2.cell (p:=⟨bA,off+p*5+4,none⟩) hbl).trans c4';by_cases hjl:j<ks.length
    ·have hjz:(j:Int)<(ks.length:Int):=by omega
     obtain⟨bK,oK,rfl,hbK,hcK⟩:=hI (by omega);obtain⟨m,hm,hmp⟩:=HKID.out j hjl;have hck:=(hb2.cell (p:=⟨bK,oK+j,none⟩) hbK).trans (hcK j hjl);rw[hm]at hck;have hmn:m<n:=by omega
     have hcg:=hG2.cell hlt;have hcm:=hG2.cell hmn;have hfg:=hG2.frozen p;rw[if_pos rfl]at hcg;rw[if_neg (show¬m=p by omega)]at hcm;have hdm:iU l p m<=4000:=by
      have h6:=(zi (λq hq=>HU.out q (by omega):iY l b p)).le (λq hq=>HU.out q (by omega)) m hmp;omega
     have HFS:=hid (show f (j+1)=max (f j) (iU l p m) by
      rw[HF.out]
      show(ks.take (j+1)).foldl _ 0=_
      rw[List.take_succ_eq_append_getElem hjl,List.foldl_append,hm];rfl)
     clear hcK hm;generalize iU l p m=dm at *
     generalize f j=fj at *
     go_upto_region 12 with(fail)
     go_still_tail 21,(by kernel_rfl)
     change wpList _ _ _ _ _ _;go_wp2
     go_roundw
     case rel=>
      refine⟨j+1,by omega,by go_num,(hG2.set_ p _).congr λq _ =>?_,hB2.far (by show w.heap.size≠w1.heap.size;omega) _,cO (hb2.setCell (p:=⟨w1.heap.size,p,none⟩) (by show _<=w1.heap.size;omega) _)⟩;have h9:=HFS.out;by_cases e:q=p
      ·rw[if_pos e,if_pos e]
       first|(split<;>omega) |omega |(rw[h9,Int.natCast_max];omega) |(simp only[Int.max_def,Nat.max_def]at *;split<;>split<;>omega)
      ·rw[if_neg e,if_neg e,if_neg e]
     case measure=>simp[intOf];omega
    ·obtain rfl:j=ks.length:=by omega
     have hjz:¬(ks.length:Int)<(ks.length:Int):=by omega
     have HFE:=hid (show f ks.length+1=iU l (p+1) p by
      show _=(if p=p then sH (iU l p) (aA l p) else iU l p p)
      rw[if_pos rfl,HKA.out,HF.out]
      show(ks.take ks.length).foldl _ 0+1=_
      rw[List.take_length];rfl)
     go_wp2
     go_roundw
     case rel=>
      refine⟨p+1,by omega,by go_num,hB2,hG2.congr λq _ =>?_,hb2⟩;have h7:=HFE.out;by_cases e:q=p
      ·subst e;rw[if_pos rfl];omega
      ·rw[if_neg e];show _=((if q=p then sH (iU l p) (aA l p) else iU l p q:Nat):Int);rw[if_neg e]
     case measure=>simp[intOf];omega
  ·obtain rfl:p=n:=by omega
   have hlz:¬(p:Int)<(p:Int):=by omega
   have hcg:=hG.cell (i:=n') (by omega);go_wp2
   go_ret
   exact⟨rfl,hbw⟩
theorem y5 (A:Option Addr)(c n:Nat)(l:List Nd)(r:Int)(w:World)(hN:bu w A l)(hn:n=l.length)(hk:∀x ∈ l,x.ks.length<=4000):Calls Tryz.prog 68 #[.agg #[.slice A n c,.int .i64 r]] w (az (jQ l r:Int) w):=by
 by_cases h:gF l r
 ·rw[iL h,<- hn];exact yZ A c n l r w hN hn hk h
 ·rw[BL h];exact Bq A c n l r w hN hn hk h
def MW (w:World)(b:Nat):Prop:=∃cs,w.heap[b]?=some (.cells cs 3 (0,0))
theorem MW.lt {w:World}{b:Nat}(h:MW w b):b<w.heap.size:=h.elim λ_ h=>(Array.getElem?_eq_some_iff.1 h).1
def iv (l:List Int):List Value:=l.map λx=>Value.int .i64 x
theorem MX {base n:Nat}{w:World}{v:Value}{l:List Int}(hn:n=l.length)(h:w.ownsRow base 3 1 v n (iv l)):∃K c,v=.slice K n c/\Ints w K l/\(∀b off,K=some ⟨b,off,none⟩->(MW w b/\base<=b/\v.ownBlock=some b))/\(K=none->c=0):=by
 subst hn;rcases h.2 with⟨rfl,e⟩ |⟨g,cap,cur,rfl,hb,hg,hn,_,_,ht⟩
 ·exact⟨none,0,by rw[e],λh0=>by omega,λb off e=>(by cases e),λ_=>rfl⟩
 ·refine⟨_,_,rfl,λh0 =>?_,λb off e=>(by cases e;exact⟨⟨cur,hg⟩,hb,rfl⟩),λe=>(by cases e)⟩;refine⟨g,0,rfl,(Array.getElem?_eq_some_iff.1 hg).1,λj hj =>?_⟩;rw[Nat.zero_add,cell_of_row w g j cur 3 (0,0) hg];have h2:(iv l)[j]?=some (.int .i64 l[j]):=by unfold iv;simp[hj]
  rw[<- ht,List.getElem?_take,if_pos (by omega)]at h2;simpa using h2
theorem r_ {base n size:Nat}{e:TypeId}{v:Value}{ls:List Value}{w w':World}(h:w.ownsRow base e size v n ls)(hb:Below w.heap.size w w'):w'.ownsRow base e size v n ls:=
 ⟨h.1,h.2.imp id λ⟨g,cap,cur,h1,h2,h3,h4⟩=>⟨g,cap,cur,h1,h2,(hb.block g (Array.getElem?_eq_some_iff.1 h3).1).trans h3,h4⟩⟩
theorem y7 {base n size:Nat}{e:TypeId}{v:Value}{ls:List Value}{w:World}(h:w.ownsRow base e size v n ls):∃A c,v=.slice A n c:=by
 rcases h.2 with⟨rfl,e⟩ |⟨g,cap,cur,rfl,_⟩
 ·exact⟨_,_,by rw[e]⟩
 ·exact⟨_,_,rfl⟩
theorem JU (a b:List Int):iv (a++b)=iv a++iv b:=List.map_append
theorem gy (w:World)(l:List Value)(t:TypeId):∀j u,l[j]?=some u->(w.alloc (.cells l.toArray t)).cell? ((⟨w.heap.size,0,none⟩:Addr).add j)=some u:=λj u hj=>by
 have hB:=Bx.new w t l;rw[show(⟨w.heap.size,0,none⟩:Addr).add j=⟨w.heap.size,j,none⟩by simp[Addr.add];omega,hB.cell j,hj]
theorem MZ (x:Int):∀u ∈ [Value.int .i64 x],u.oneCell'=true:=λu hu=>by
 obtain rfl:u=_:=List.mem_singleton.1 hu;rfl
theorem sV (b:Nat)(w:World):(Instr.fieldAt 25 (.pointer (some ⟨b,0,none⟩)) 0).run Tryz.prog w=.ok (.pointer (some ⟨b,0,none⟩)) w:=by kernel_rfl
theorem sW (b off:Nat)(w:World):(Instr.fieldAt 37 (.pointer (some ⟨b,off,none⟩)) 0).run Tryz.prog w=.ok (.pointer (some ⟨b,off,none⟩)) w:=by kernel_rfl
theorem sZ (b off:Nat)(w:World):(Instr.fieldAt 37 (.pointer (some ⟨b,off,none⟩)) 4).run Tryz.prog w=.ok (.pointer (some ⟨b,off+4,none⟩)) w:=by kernel_rfl
theorem y8 {w:World}{b off n c:Nat}{A:Option Addr}(h:w.cell? ⟨b,off,none⟩=some (.slice A n c)):(Instr.loadAt 35 (.pointer (some ⟨b,off,none⟩))).run Tryz.prog w=.ok (.slice A n c) w:=by
 simp[go_sem,h]
theorem y9 {w:World}{b off n c:Nat}{A:Option Addr}(h:w.cell? ⟨b,off,none⟩=some (.slice A n c)):(Instr.loadAt 23 (.pointer (some ⟨b,off,none⟩))).run Tryz.prog w=.ok (.slice A n c) w:=by
 simp[go_sem,h]
theorem xL (b off n c k:Nat)(hk:k<n)(w:World):(Instr.indexAt 23 (.slice (some ⟨b,off,none⟩) n c) (.int .i64 (k:Int))).run Tryz.prog w=.ok (.pointer (some ⟨b,off+k*5,none⟩)) w:=
 qx (t:=23) (e:=37) (sz:=5) (by kernel_rfl) (by kernel_rfl) (by kernel_rfl) b off n c k hk w
section
variable {ops:Array Oper} {Q:Exit->Act->World->Prop} {S:World->Prop} {fuel:Nat} {listed:Array Bool} {a:Act} {w:World} {o:Oper}
theorem aP {x:Operand}{v:Value}(ho:o.op=.move x)(hx:a.eval x=v):∀w,S w->(execOp a.eval o).run Tryz.prog w=.ok (.value v) w:=λw _=>by unfold execOp;simp only[ho,hx,Sem.run_pure]
theorem aV {t:TypeId}{k:Nat}{x:Operand}{ad ad':Addr}(ho:o.op=.fieldAddr t x k)(hx:a.eval x=.pointer (some ad))(hl:∀w,(Instr.fieldAt t (.pointer (some ad)) k).run Tryz.prog w=.ok (.pointer (some ad')) w):∀w,S w->(execOp a.eval o).run Tryz.prog w=.ok (.value (.pointer (some ad'))) w:=λw _=>by
 unfold execOp;simp only[ho,hx,Sem.run_bind,hl w,Sem.run_pure,Result.andThen_ok]
theorem iO {t:TypeId}{x y:Operand}{u v r:Value}(ho:o.op=.indexAddr t x y)(hx:a.eval x=u)(hy:a.eval y=v)(hl:∀w,(Instr.indexAt t u v).run Tryz.prog w=.ok r w):∀w,S w->(execOp a.eval o).run Tryz.prog w=.ok (.value r) w:=λw _=>by
 unfold execOp;simp only[ho,hx,hy,Sem.run_bind,hl w,Sem.run_pure,Result.andThen_ok]
end
theorem mY (k:Int)(w:World):Calls Tryz.prog 200 #[.int .i64 k] w (au (dA k) w):=by
 by_cases h1:7<=k
 ·by_cases h2:k<=17
  ·have HE:=hid (show dA k=true by unfold dA;simp[h1,h2]);have q1:decide (7<=k)=true:=decide_eq_true h1;have q2:decide (k<=17)=true:=decide_eq_true h2;go_enter Tryz.func200,Tryz.ntmps200
   go_wp2
   go_ret
   exact⟨aa HE.out.symm,Below.refl _ _⟩
  ·have HE:=hid (show dA k=false by unfold dA;simp[h1,h2]);have q1:decide (7<=k)=true:=decide_eq_true h1;have q2:decide (k<=17)=false:=decide_eq_false h2;go_enter Tryz.func200,Tryz.ntmps200
   go_wp2
   go_ret
   exact⟨aa HE.out.symm,Below.refl _ _⟩
 ·have HE:=hid (show dA k=false by unfold dA;simp[h1]);have q1:decide (7<=k)=false:=decide_eq_false h1;go_enter Tryz.func200,Tryz.ntmps200
  go_wp2
  go_ret
  exact⟨aa HE.out.symm,Below.refl _ _⟩
theorem bW (k:Int)(w:World):Calls Tryz.prog 202 #[.int .i64 k] w (au (aL k) w):=by
 by_cases h1:20<=k
 ·by_cases h2:k<=27
  ·have HE:=hid (show aL k=true by unfold aL;simp[h1,h2]);have q1:decide (20<=k)=true:=decide_eq_true h1;have q2:decide (k<=27)=true:=decide_eq_true h2;go_enter Tryz.func202,Tryz.ntmps202
   go_wp2
   go_ret
   exact⟨aa HE.out.symm,Below.refl _ _⟩
  ·have HE:=hid (show aL k=false by unfold aL;simp[h1,h2]);have q1:decide (20<=k)=true:=decide_eq_true h1;have q2:decide (k<=27)=false:=decide_eq_false h2;go_enter Tryz.func202,Tryz.ntmps202
   go_wp2
   go_ret
   exact⟨aa HE.out.symm,Below.refl _ _⟩
 ·have HE:=hid (show aL k=false by unfold aL;simp[h1]);have q1:decide (20<=k)=false:=decide_eq_false h1;go_enter Tryz.func202,Tryz.ntmps202
  go_wp2
  go_ret
  exact⟨aa HE.out.symm,Below.refl _ _⟩
theorem fA (K:Option Addr)(n c:Nat)(l:List Int)(w:World)(hI:Ints w K l)(hn:n=l.length)(hl:n<=4000):Calls Tryz.prog 201 #[.slice K n c] w (au (bE l) w):=by
 have HI:=hid hI;have HL:=hid hn;clear hI hn;go_enter Tryz.func201,Tryz.ntmps201
 go_wp2
 go_loopw [3] (λi wr=>∃j:Nat,j<=n/\i=.int .i64 (j:Int)/\bE (l.take j)=true/\Below w.heap.size w wr) (λi _=>n-(intOf i).toNat)
 case atStart=>exact⟨0,Nat.zero_le _,rfl,rfl,Below.refl _ _⟩
 case round=>
  obtain⟨j,hj,rfl,hall,hbw⟩:=hrel;have HA:=hid hall;clear hall;by_cases hjl:j<n
  ·have hjz:(j:Int)<(n:Int):=by omega
   have hjl2:j<l.length:=by rw[<- HL.out];exact hjl
   obtain⟨bK,oK,rfl,hbK,hcK⟩:=HI.out (by omega);have hck:=(hbw.cell (p:=⟨bK,oK+j,none⟩) hbK).trans (hcK j hjl2);have HTJ:=hid (show l.take (j+1)=l.take j++[l[j]]from List.take_succ_eq_append_getElem hjl2);have HMM:=hid (List.getElem_mem hjl2);clear hcK;generalize l[j]=kk at *
   cases he:aL kk with
   |true=>
    have HC:=hid (bW kk wr);rw[he]at HC;have HE:=hid he;clear he;go_wp2_with (go_at_call 202;refine HC.out.mono ?_;rintro e w1 ⟨rfl,hb1⟩)
    go_roundw
    case rel=>
     refine⟨j+1,by omega,by go_num,?_,bt hbw hb1⟩;rw[HTJ.out];unfold bE;rw[List.all_append];have:=HA.out;unfold bE at this;rw[this];simp[HE.out]
    case measure=>simp[intOf];omega
   |false=>
    have HC:=hid (bW kk wr);rw[he]at HC;have HE:=hid (show bE l=false by
     unfold bE;rw[List.all_eq_false];exact⟨kk,HMM.out,by simp[he]⟩)
    clear he;go_wp2_with (go_at_call 202;refine HC.out.mono ?_;rintro e w1 ⟨rfl,hb1⟩)
    go_ret
    exact⟨aa HE.out.symm,bt hbw hb1⟩
  ·obtain rfl:j=n:=by omega
   have hjz:¬(j:Int)<(j:Int):=by omega
   have HE:=hid (show bE l=true by have:=HA.out;rw[HL.out,List.take_length]at this;exact this);go_wp2
   go_ret
   exact⟨aa HE.out.symm,hbw⟩
theorem LX (kd n pl:Int)(tx:ByteArray)(K:Option Addr)(m c:Nat)(w:World)(hk:kd=2):Calls Tryz.prog 129 #[.agg #[.int .i64 kd,.int .i64 n,.int .i64 pl,.string tx,.slice K m c]] w (au (aX kd n) w):=by
 have hb:Below w.heap.size w (w.alloc (.cells #[.int .i64 kd,.int .i64 n,.int .i64 pl,.string tx,.slice K m c] 37)):=ag _ _;obtain⟨W,hW⟩:∃W,w.alloc (.cells #[.int .i64 kd,.int .i64 n,.int .i64 pl,.string tx,.slice K m c] 37)=W:=⟨_,rfl⟩;have hB:Bx W w.heap.size 37 [.int .i64 kd,.int .i64 n,.int .i64 pl,.string tx,.slice K m c]:=by rw[<- hW];exact Bx.new w 37 _
 rw[hW]at hb;have d0:=hB.cell 0;have d1:=hB.cell 1;simp only[List.getElem?_cons_zero,List.getElem?_cons_succ]at d0 d1;clear hB;subst hk;by_cases h1:1<=n
 ·have q1:decide (1<=n)=true:=decide_eq_true h1;by_cases h2:n<=4
  ·have q2:decide (n<=4)=true:=decide_eq_true h2;have HE:=hid (show aX 2 n=true by unfold aX;simp[h1,h2]);go_enter Tryz.func129,Tryz.ntmps129
   go_wp2
   go_ret
   exact⟨aa HE.out.symm,hb⟩
  ·have q2:decide (n<=4)=false:=decide_eq_false h2;have HE:=hid (show aX 2 n=false by unfold aX;simp[h2]);go_enter Tryz.func129,Tryz.ntmps129
   go_wp2
   go_ret
   exact⟨aa HE.out.symm,hb⟩
 ·have q1:decide (1<=n)=false:=decide_eq_false h1;have HE:=hid (show aX 2 n=false by unfold aX;simp[h1]);go_enter Tryz.func129,Tryz.ntmps129
  go_wp2
  go_ret
  exact⟨aa HE.out.symm,hb⟩
theorem LY (kd n pl:Int)(tx:ByteArray)(K:Option Addr)(m c:Nat)(w:World)(hk:kd=4):Calls Tryz.prog 129 #[.agg #[.int .i64 kd,.int .i64 n,.int .i64 pl,.string tx,.slice K m c]] w (au (aX kd n) w):=by
 have hb:Below w.heap.size w (w.alloc (.cells #[.int .i64 kd,.int .i64 n,.int .i64 pl,.string tx,.slice K m c] 37)):=ag _ _;obtain⟨W,hW⟩:∃W,w.alloc (.cells #[.int .i64 kd,.int .i64 n,.int .i64 pl,.string tx,.slice K m c] 37)=W:=⟨_,rfl⟩;have hB:Bx W w.heap.size 37 [.int .i64 kd,.int .i64 n,.int .i64 pl,.string tx,.slice K m c]:=by rw[<- hW];exact Bx.new w 37 _
 rw[hW]at hb;have d0:=hB.cell 0;have d1:=hB.cell 1;simp only[List.getElem?_cons_zero,List.getElem?_cons_succ]at d0 d1;clear hB;subst hk;by_cases h1:1<=n
 ·have q1:decide (1<=n)=true:=decide_eq_true h1;by_cases h2:n<=4
  ·have q2:decide (n<=4)=true:=decide_eq_true h2;have HE:=hid (show aX 4 n=true by unfold aX;simp[h1,h2]);go_enter Tryz.func129,Tryz.ntmps129
   go_wp2
   go_ret
   exact⟨aa HE.out.symm,hb⟩
  ·have q2:decide (n<=4)=false:=decide_eq_false h2;have HE:=hid (show aX 4 n=false by unfold aX;simp[h2]);go_enter Tryz.func129,Tryz.ntmps129
   go_wp2
   go_ret
   exact⟨aa HE.out.symm,hb⟩
 ·have q1:decide (1<=n)=false:=decide_eq_false h1;have HE:=hid (show aX 4 n=false by unfold aX;simp[h1]);go_enter Tryz.func129,Tryz.ntmps129
  go_wp2
  go_ret
  exact⟨aa HE.out.symm,hb⟩
theorem LZ (kd n pl:Int)(tx:ByteArray)(K:Option Addr)(m c:Nat)(w:World)(hk:kd=5):Calls Tryz.prog 129 #[.agg #[.int .i64 kd,.int .i64 n,.int .i64 pl,.string tx,.slice K m c]] w (au (aX kd n) w):=by
 have hb:Below w.heap.size w (w.alloc (.cells #[.int .i64 kd,.int .i64 n,.int .i64 pl,.string tx,.slice K m c] 37)):=ag _ _;obtain⟨W,hW⟩:∃W,w.alloc (.cells #[.int .i64 kd,.int .i64 n,.int .i64 pl,.string tx,.slice K m c] 37)=W:=⟨_,rfl⟩;have hB:Bx W w.heap.size 37 [.int .i64 kd,.int .i64 n,.int .i64 pl,.string tx,.slice K m c]:=by rw[<- hW];exact Bx.new w 37 _
 rw[hW]at hb;have d0:=hB.cell 0;have d1:=hB.cell 1;simp only[List.getElem?_cons_zero,List.getElem?_cons_succ]at d0 d1;clear hB;subst hk;by_cases h1:1<=n
 ·have q1:decide (1<=n)=true:=decide_eq_true h1;by_cases h2:n<=4
  ·have q2:decide (n<=4)=true:=decide_eq_true h2;have HE:=hid (show aX 5 n=true by unfold aX;simp[h1,h2]);go_enter Tryz.func129,Tryz.ntmps129
   go_wp2
   go_ret
   exact⟨aa HE.out.symm,hb⟩
  ·have q2:decide (n<=4)=false:=decide_eq_false h2;have HE:=hid (show aX 5 n=false by unfold aX;simp[h2]);go_enter Tryz.func129,Tryz.ntmps129
   go_wp2
   go_ret
   exact⟨aa HE.out.symm,hb⟩
 ·have q1:decide (1<=n)=false:=decide_eq_false h1;have HE:=hid (show aX 5 n=false by unfold aX;simp[h1]);go_enter Tryz.func129,Tryz.ntmps129
  go_wp2
  go_ret
  exact⟨aa HE.out.symm,hb⟩
theorem L6 (kd n pl:Int)(tx:ByteArray)(K:Option Addr)(m c:Nat)(w:World)(hk:kd=3):Calls Tryz.prog 129 #[.agg #[.int .i64 kd,.int .i64 n,.int .i64 pl,.string tx,.slice K m c]] w (au (aX kd n) w):=by
 have hb:Below w.heap.size w (w.alloc (.cells #[.int .i64 kd,.int .i64 n,.int .i64 pl,.string tx,.slice K m c] 37)):=ag _ _;obtain⟨W,hW⟩:∃W,w.alloc (.cells #[.int .i64 kd,.int .i64 n,.int .i64 pl,.string tx,.slice K m c] 37)=W:=⟨_,rfl⟩;have hB:Bx W w.heap.size 37 [.int .i64 kd,.int .i64 n,.int .i64 pl,.string tx,.slice K m c]:=by rw[<- hW];exact Bx.new w 37 _
 rw[hW]at hb;have d0:=hB.cell 0;have d1:=hB.cell 1;simp only[List.getElem?_cons_zero,List.getElem?_cons_succ]at d0 d1;clear hB;subst hk;by_cases h1:0<=n
 ·have q1:decide (0<=n)=true:=decide_eq_true h1;by_cases h2:n<=4
  ·have q2:decide (n<=4)=true:=decide_eq_true h2;have HE:=hid (show aX 3 n=true by unfold aX;simp[h1,h2]);go_enter Tryz.func129,Tryz.ntmps129
   go_wp2
   go_ret
   exact⟨aa HE.out.symm,hb⟩
  ·have q2:decide (n<=4)=false:=decide_eq_false h2;have HE:=hid (show aX 3 n=false by unfold aX;simp[h2]);go_enter Tryz.func129,Tryz.ntmps129
   go_wp2
   go_ret
   exact⟨aa HE.out.symm,hb⟩
 ·have q1:decide (0<=n)=false:=decide_eq_false h1;have HE:=hid (show aX 3 n=false by unfold aX;simp[h1]);go_enter Tryz.func129,Tryz.ntmps129
  go_wp2
  go_ret
  exact⟨aa HE.out.symm,hb⟩
theorem JV (kd n pl:Int)(tx:ByteArray)(K:Option Addr)(m c:Nat)(w:World)(hk:kd=20):Calls Tryz.prog 129 #[.agg #[.int .i64 kd,.int .i64 n,.int .i64 pl,.string tx,.slice K m c]] w (au (aX kd n) w):=by
 have hb:Below w.heap.size w (w.alloc (.cells #[.int .i64 kd,.int .i64 n,.int .i64 pl,.string tx,.slice K m c] 37)):=ag _ _;obtain⟨W,hW⟩:∃W,w.alloc (.cells #[.int .i64 kd,.int .i64 n,.int .i64 pl,.string tx,.slice K m c] 37)=W:=⟨_,rfl⟩;have hB:Bx W w.heap.size 37 [.int .i64 kd,.int .i64 n,.int .i64 pl,.string tx,.slice K m c]:=by rw[<- hW];exact Bx.new w 37 _
 rw[hW]at hb;have d0:=hB.cell 0;have d1:=hB.cell 1;simp only[List.getElem?_cons_zero,List.getElem?_cons_succ]at d0 d1;clear hB;subst hk;by_cases h1:0<=n
 ·have q1:decide (0<=n)=true:=decide_eq_true h1;have HE:=hid (show aX 20 n=true by unfold aX;simp[h1]);go_enter Tryz.func129,Tryz.ntmps129
  go_wp2
  go_ret
  exact⟨aa HE.out.symm,hb⟩
 ·have q1:decide (0<=n)=false:=decide_eq_false h1;have HE:=hid (show aX 20 n=false by unfold aX;simp[h1]);go_enter Tryz.func129,Tryz.ntmps129
  go_wp2
  go_ret
  exact⟨aa HE.out.symm,hb⟩
theorem JW (kd n pl:Int)(tx:ByteArray)(K:Option Addr)(m c:Nat)(w:World)(hk:kd=21):Calls Tryz.prog 129 #[.agg #[.int .i64 kd,.int .i64 n,.int .i64 pl,.string tx,.slice K m c]] w (au (aX kd n) w):=by
 have hb:Below w.heap.size w (w.alloc (.cells #[.int .i64 kd,.int .i64 n,.int .i64 pl,.string tx,.slice K m c] 37)):=ag _ _;obtain⟨W,hW⟩:∃W,w.alloc (.cells #[.int .i64 kd,.int .i64 n,.int .i64 pl,.string tx,.slice K m c] 37)=W:=⟨_,rfl⟩;have hB:Bx W w.heap.size 37 [.int .i64 kd,.int .i64 n,.int .i64 pl,.string tx,.slice K m c]:=by rw[<- hW];exact Bx.new w 37 _
 rw[hW]at hb;have d0:=hB.cell 0;have d1:=hB.cell 1;simp only[List.getElem?_cons_zero,List.getElem?_cons_succ]at d0 d1;clear hB;subst hk;by_cases h1:n=0
 ·subst h1;have HE:=hid (show aX 21 0=true by unfold aX;simp);go_enter Tryz.func129,Tryz.ntmps129
  go_wp2
  go_ret
  exact⟨aa HE.out.symm,hb⟩
 ·have q1:(n==0)=false:=by simp[h1]
  by_cases h2:n=1
  ·subst h2;clear q1 h1;have HE:=hid (show aX 21 1=true by unfold aX;simp);go_enter Tryz.func129,Tryz.ntmps129
   go_wp2
   go_ret
   exact⟨aa HE.out.symm,hb⟩
  ·have q2:(n==1)=false:=by simp[h2]
   have HE:=hid (show aX 21 n=false by unfold aX;simp[h1,h2]);go_enter Tryz.func129,Tryz.ntmps129
   go_wp2
   go_ret
   exact⟨aa HE.out.symm,hb⟩
theorem JX (kd n pl:Int)(tx:ByteArray)(K:Option Addr)(m c:Nat)(w:World)(g2:¬kd=2)(g4:¬kd=4)(g5:¬kd=5)(g3:¬kd=3)(g20:¬kd=20)(g21:¬kd=21):Calls Tryz.prog 129 #[.agg #[.int .i64 kd,.int .i64 n,.int .i64 pl,.string tx,.slice K m c]] w (au (aX kd n) w):=by
 have hb:Below w.heap.size w (w.alloc (.cells #[.int .i64 kd,.int .i64 n,.int .i64 pl,.string tx,.slice K m c] 37)):=ag _ _;obtain⟨W,hW⟩:∃W,w.alloc (.cells #[.int .i64 kd,.int .i64 n,.int .i64 pl,.string tx,.slice K m c] 37)=W:=⟨_,rfl⟩;have hB:Bx W w.heap.size 37 [.int .i64 kd,.int .i64 n,.int .i64 pl,.string tx,.slice K m c]:=by rw[<- hW];exact Bx.new w 37 _
 rw[hW]at hb;have d0:=hB.cell 0;have d1:=hB.cell 1;simp only[List.getElem?_cons_zero,List.getElem?_cons_succ]at d0 d1;clear hB;have k2:(kd==2)=false:=by simp[g2]
 have k4:(kd==4)=false:=by simp[g4]
 have k5:(kd==5)=false:=by simp[g5]
 have k3:(kd==3)=false:=by simp[g3]
 have k20:(kd==20)=false:=by simp[g20]
 have k21:(kd==21)=false:=by simp[g21]
 by_cases h1:n=0
 ·subst h1;have HE:=hid (show aX kd 0=true by unfold aX;simp[g2,g4,g5,g3,g20,g21]);go_enter Tryz.func129,Tryz.ntmps129
  go_wp2
  go_ret
  exact⟨aa HE.out.symm,hb⟩
 ·have q1:(n==0)=false:=by simp[h1]
  have HE:=hid (show aX kd n=false by unfold aX;simp[h1,g2,g4,g5,g3,g20,g21]);go_enter Tryz.func129,Tryz.ntmps129
  go_wp2
  go_ret
  exact⟨aa HE.out.symm,hb⟩
theorem xM (kd n pl:Int)(tx:ByteArray)(K:Option Addr)(m c:Nat)(w:World):Calls Tryz.prog 129 #[.agg #[.int .i64 kd,.int .i64 n,.int .i64 pl,.string tx,.slice K m c]] w (au (aX kd n) w):=by
 by_cases g2:kd=2
 ·exact LX kd n pl tx K m c w g2
 by_cases g4:kd=4
 ·exact LY kd n pl tx K m c w g4
 by_cases g5:kd=5
 ·exact LZ kd n pl tx K m c w g5
 by_cases g3:kd=3
 ·exact L6 kd n pl tx K m c w g3
 by_cases g20:kd=20
 ·exact JV kd n pl tx K m c w g20
 by_cases g21:kd=21
 ·exact JW kd n pl tx K m c w g21
 exact JX kd n pl tx K m c w g2 g4 g5 g3 g20 g21
theorem vM (a:Int)(l:List Int)(i:Nat)(h:i<l.length):gN a (l.drop i)=if l[i]=a then gN a (l.drop (i+1))+1 else 0:=by
 rw[List.drop_eq_getElem_cons h];rfl
theorem um (K:Option Addr)(n cc:Nat)(l:List Int)(a b c:Int)(w:World)(hI:Ints w K l)(hn:n=l.length)(hl:n<=4000):Calls Tryz.prog 199 #[.slice K n cc,.int .i64 a,.int .i64 b,.int .i64 c] w (au (bi l a b c) w):=by
 have HI:=hid hI;have HL:=hid hn;clear hI hn;go_enter Tryz.func199,Tryz.ntmps199
 go_wp2
 go_loop [9] (λi=>∃j:Nat,j<=n/\i=.int .i64 (j:Int)/\j+gN a (l.drop j)=vX l a) (λi=>n-(intOf i).toNat)
 case atStart=>exact⟨0,Nat.zero_le _,rfl,by rw[List.drop_zero];unfold vX;omega⟩
 case round=>
  obtain⟨j,hj,rfl,hrun⟩:=hrel;have HR:=hid hrun;clear hrun;by_cases hjl:j<n
  ·have hjz:(j:Int)<(n:Int):=by omega
   have hjl2:j<l.length:=by rw[<- HL.out];exact hjl
   obtain⟨bK,oK,eK,hbK,hcK⟩:=HI.out (by omega);have hck:=hcK j hjl2;have HRA:=hid (vM a l j hjl2);clear hcK;by_cases g:l[j]=a
   ·have HR3:=hid (show j+1+gN a (l.drop (j+1))=vX l a by have h1:=HR.out;rw[HRA.out,if_pos g]at h1;omega);have q5:(a==a)=true:=by simp
    rw[g]at hck;cases eK;clear g HR HRA;go_wp2
    go_round
    case rel=>exact⟨j+1,by omega,by go_num,HR3.out⟩
    case measure=>simp[intOf];omega
   ·have HJ:=hid (show j=vX l a by have h1:=HR.out;rw[HRA.out,if_neg g]at h1;omega);have q5:(l[j]==a)=false:=by simpa using g
    obtain⟨kj,hkj⟩:∃kj,l[j]=kj:=⟨_,rfl⟩;rw[hkj]at hck q5;cases eK;clear g HR HRA hkj;go_wp2
    go_loop [9] (λi=>∃t:Nat,t<=n/\i=.int .i64 (t:Int)/\t+gN b (l.drop t)=lh l a b) (λi=>n-(intOf i).toNat)
    case atStart=>exact⟨j,hj,rfl,by unfold lh;rw[<- HJ.out]⟩
    case round=>
     clear hjz;obtain⟨i,hi,rfl,hrun⟩:=hrel;have HR2:=hid hrun;clear hrun;by_cases hil:i<n
     ·have hiz:(i:Int)<(n:Int):=by omega
      have hil2:i<l.length:=by rw[<- HL.out];exact hil
      obtain⟨bL,oL,eL,hbL,hcL⟩:=HI.out (by omega);have hcl:=hcL i hil2;have HRA2:=hid (vM b l i hil2);clear hcL;by_cases g:l[i]=b
      ·have HR3:=hid (show i+1+gN b (l.drop (i+1))=lh l a b by have h1:=HR2.out;rw[HRA2.out,if_pos g]at h1;omega);have q5:(b==b)=true:=by simp
       rw[g]at hcl;cases eL;clear g HR2 HRA2;go_wp2
       go_round
       case rel=>exact⟨i+1,by omega,by go_num,HR3.out⟩
       case measure=>simp[intOf];omega
      ·have HEQ:=hid (show i=lh l a b by have h1:=HR2.out;rw[HRA2.out,if_neg g]at h1;omega);have q5:(l[i]==b)=false:=by simpa using g
       obtain⟨ki,hki⟩:∃ki,l[i]=ki:=⟨_,rfl⟩;rw[hki]at hcl q5;cases eL;have HKI:=hid hki;clear g HR2 HRA2 hki;have hi1:i<=l.length:=by rw[<- HL.out];exact hi
       by_cases hc:c=0
       ·subst hc;by_cases e:i=n
        ·subst e;have HE:=hid (show bi l a b 0=true by unfold bi;rw[if_pos rfl];exact decide_eq_true (by rw[<- HEQ.out];exact HL.out));go_wp2
         go_ret
         exact⟨aa HE.out.symm,Below.refl _ _⟩
        ·have q2:((i:Int)==(n:Int))=false:=by simp;omega
         have HE:=hid (show bi l a b 0=false by unfold bi;rw[if_pos rfl];exact decide_eq_false (by rw[<- HEQ.out,<- HL.out];exact e));go_wp2
         go_ret
         exact⟨aa HE.out.symm,Below.refl _ _⟩
       ·have qc:(c != 0)=true:=by simpa using hc
        by_cases e:i+1=n
        ·have hil:i<l.length:=by rw[<- HL.out];omega
         have q2:((i:Int)==(n:Int)-1)=true:=by simp;omega
         have hin:i<n:=by omega
         have HGD:=hid (show l.getD (lh l a b) 0=ki by rw[<- HEQ.out];simp[List.getD,hil];exact HKI.out);have HE1:=hid (show lh l a b+1=l.length by rw[<- HEQ.out,<- HL.out];exact e);by_cases g:ki=c
         ·subst g;have HE:=hid (show bi l a b ki=true by unfold bi;rw[if_neg hc,HGD.out];simp[HE1.out]);clear hc;go_wp2
          go_ret
          exact⟨aa HE.out.symm,Below.refl _ _⟩
         ·have q3:(ki==c)=false:=by simpa using g
          have HE:=hid (show bi l a b c=false by unfold bi;rw[if_neg hc,HGD.out];simp[g]);clear hc g;go_wp2
          go_ret
          exact⟨aa HE.out.symm,Below.refl _ _⟩
        ·have q2:((i:Int)==(n:Int)-1)=false:=by simp;omega
         have HE:=hid (show bi l a b c=false by unfold bi;rw[if_neg hc,<- HEQ.out,<- HL.out];simp[e]);clear hc;go_wp2
         go_ret
         exact⟨aa HE.out.symm,Below.refl _ _⟩
     ·obtain rfl:i=n:=by omega
      have hiz:¬(i:Int)<(i:Int):=by omega
      have HEQ:=hid (show i=lh l a b by have h1:=HR2.out;have h2:=HL.out;rw[List.drop_of_length_le (by omega)]at h1;simpa [gN]using h1);clear HR2;have hi1:i<=l.length:=by rw[<- HL.out];exact hi
      by_cases hc:c=0
      ·subst hc;by_cases e:i=i
       ·clear e;have HE:=hid (show bi l a b 0=true by unfold bi;rw[if_pos rfl];exact decide_eq_true (by rw[<- HEQ.out];exact HL.out));go_wp2
        go_ret
        exact⟨aa HE.out.symm,Below.refl _ _⟩
       ·exact absurd rfl e
      ·have qc:(c != 0)=true:=by simpa using hc
       have e:¬i+1=i:=by omega
       have q2:((i:Int)==(i:Int)-1)=false:=by simp;omega
       have HE:=hid (show bi l a b c=false by unfold bi;rw[if_neg hc,<- HEQ.out,<- HL.out];simp);clear hc;go_wp2
       go_ret
       exact⟨aa HE.out.symm,Below.refl _ _⟩
  ·obtain rfl:j=n:=by omega
   have hjz:¬(j:Int)<(j:Int):=by omega
   have HJ:=hid (show j=vX l a by have h1:=HR.out;have h2:=HL.out;rw[List.drop_of_length_le (by omega)]at h1;simpa [gN]using h1);clear HR;go_wp2
   go_loop [9] (λi=>∃t:Nat,t<=j/\i=.int .i64 (t:Int)/\t+gN b (l.drop t)=lh l a b) (λi=>j-(intOf i).toNat)
   case atStart=>exact⟨j,hj,rfl,by unfold lh;rw[<- HJ.out]⟩
   case round=>
    clear hjz;obtain⟨i,hi,rfl,hrun⟩:=hrel;have HR2:=hid hrun;clear hrun;by_cases hil:i<j
    ·have hiz:(i:Int)<(j:Int):=by omega
     have hil2:i<l.length:=by rw[<- HL.out];exact hil
     obtain⟨bL,oL,eL,hbL,hcL⟩:=HI.out (by omega);have hcl:=hcL i hil2;have HRA2:=hid (vM b l i hil2);clear hcL;by_cases g:l[i]=b
     ·have HR3:=hid (show i+1+gN b (l.drop (i+1))=lh l a b by have h1:=HR2.out;rw[HRA2.out,if_pos g]at h1;omega);have q5:(b==b)=true:=by simp
      rw[g]at hcl;cases eL;clear g HR2 HRA2;go_wp2
      go_round
      case rel=>exact⟨i+1,by omega,by go_num,HR3.out⟩
      case measure=>simp[intOf];omega
     ·have HEQ:=hid (show i=lh l a b by have h1:=HR2.out;rw[HRA2.out,if_neg g]at h1;omega);have q5:(l[i]==b)=false:=by simpa using g
      obtain⟨ki,hki⟩:∃ki,l[i]=ki:=⟨_,rfl⟩;rw[hki]at hcl q5;cases eL;have HKI:=hid hki;clear g HR2 HRA2 hki;have hi1:i<=l.length:=by rw[<- HL.out];exact hi
      by_cases hc:c=0
      ·subst hc;by_cases e:i=j
       ·subst e;have HE:=hid (show bi l a b 0=true by unfold bi;rw[if_pos rfl];exact decide_eq_true (by rw[<- HEQ.out];exact HL.out));go_wp2
        go_ret
        exact⟨aa HE.out.symm,Below.refl _ _⟩
       ·have q2:((i:Int)==(j:Int))=false:=by simp;omega
        have HE:=hid (show bi l a b 0=false by unfold bi;rw[if_pos rfl];exact decide_eq_false (by rw[<- HEQ.out,<- HL.out];exact e));go_wp2
        go_ret
        exact⟨aa HE.out.symm,Below.refl _ _⟩
      ·have qc:(c != 0)=true:=by simpa using hc
       by_cases e:i+1=j
       ·have hil:i<l.length:=by rw[<- HL.out];omega
        have q2:((i:Int)==(j:Int)-1)=true:=by simp;omega
        have hin:i<j:=by omega
        have HGD:=hid (show l.getD (lh l a b) 0=ki by rw[<- HEQ.out];simp[List.getD,hil];exact HKI.out);have HE1:=hid (show lh l a b+1=l.length by rw[<- HEQ.out,<- HL.out];exact e);by_cases g:ki=c
        ·subst g;have HE:=hid (show bi l a b ki=true by unfold bi;rw[if_neg hc,HGD.out];simp[HE1.out]);clear hc;go_wp2
         go_ret
         exact⟨aa HE.out.symm,Below.refl _ _⟩
        ·have q3:(ki==c)=false:=by simpa using g
         have HE:=hid (show bi l a b c=false by unfold bi;rw[if_neg hc,HGD.out];simp[g]);clear hc g;go_wp2
         go_ret
         exact⟨aa HE.out.symm,Below.refl _ _⟩
       ·have q2:((i:Int)==(j:Int)-1)=false:=by simp;omega
        have HE:=hid (show bi l a b c=false by unfold bi;rw[if_neg hc,<- HEQ.out,<- HL.out];simp[e]);clear hc;go_wp2
        go_ret
        exact⟨aa HE.out.symm,Below.refl _ _⟩
    ·obtain rfl:i=j:=by omega
     have hiz:¬(i:Int)<(i:Int):=by omega
     have HEQ:=hid (show i=lh l a b by have h1:=HR2.out;have h2:=HL.out;rw[List.drop_of_length_le (by omega)]at h1;simpa [gN]using h1);clear HR2;have hi1:i<=l.length:=by rw[<- HL.out];exact hi
     by_cases hc:c=0
     ·subst hc;by_cases e:i=i
      ·clear e;have HE:=hid (show bi l a b 0=true by unfold bi;rw[if_pos rfl];exact decide_eq_true (by rw[<- HEQ.out];exact HL.out));go_wp2
       go_ret
       exact⟨aa HE.out.symm,Below.refl _ _⟩
      ·exact absurd rfl e
     ·have qc:(c != 0)=true:=by simpa using hc
      have e:¬i+1=i:=by omega
      have q2:((i:Int)==(i:Int)-1)=false:=by simp;omega
      have HE:=hid (show bi l a b c=false by unfold bi;rw[if_neg hc,<- HEQ.out,<- HL.out];simp);clear hc;go_wp2
      go_ret
      exact⟨aa HE.out.symm,Below.refl _ _⟩
end
end Go.Proofs.YteecfjhjllajlaaGreatDoor.Tr
