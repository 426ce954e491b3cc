/- PROVED here: parts TyTrRrB of the claim. No condition but those in each theorem's own head. -/
import Derived.Test.YtignojhijmamhaaGreatJ37
import Derived.Laws.AppendOwnNone
namespace Go.Proofs.YtignojhijmamhaaGreat.Ty.Tr
open Go Go.RowKit
set_option maxRecDepth 100000 in
set_option maxHeartbeats 1500000 in
theorem rparents_no (A:Option Addr)(c n:Nat)(l:List Nd)(r:Int)(w:World)(hN:Nds w A l)(hn:n=l.length)(hk:∀x ∈ l,x.ks.length≤4000)(h:¬Snd l r):Calls Tryz.prog 106 #[.agg #[.slice A n c,.int .i64 r]] w (IsPost [] w):=by
 have hb:Below w.heap.size w (w.alloc (.cells #[.slice A n c,.int .i64 r] 24)):=heap1 _ _
 have HS:=Lib.hid (rsound_any A c n l r _ (hN.below hb) hn hk)
 rw[sndB_false h]at HS
 clear hN hk h hn
 go_enter Tryz.func106,Tryz.ntmps106
 go_wp2_with (go_at_call 70;refine HS.out.mono ?_;rintro e w1 ⟨rfl,hb1⟩)
 go_ret
 exact⟨none,0,rfl,fun h=>absurd h (Nat.lt_irrefl 0),bt hb hb1⟩
set_option maxRecDepth 100000 in
set_option maxHeartbeats 1500000 in
theorem rparents_yes (A:Option Addr)(c n:Nat)(l:List Nd)(r:Int)(w:World)(hN:Nds w A l)(hn:n=l.length)(hk:∀x ∈ l,x.ks.length≤4000)(h:Snd l r):Calls Tryz.prog 106 #[.agg #[.slice A n c,.int .i64 r]] w (IsPost (par l r) w):=by
 rw[par_yes h,← hn]
 have hb:Below w.heap.size w (w.alloc (.cells #[.slice A n c,.int .i64 r] 24)):=heap1 _ _
 have HS:=Lib.hid (rsound_any A c n l r _ (hN.below hb) hn hk)
 rw[sndB_true h]at HS
 have HN:=Lib.hid hN
 have HL:=Lib.hid hn
 have HK:=Lib.hid hk
 obtain⟨b,hS⟩:=h
 obtain⟨h1,h2,h3,h4,h5⟩:=hS
 rw[← hn]at h1 h2 h3 h4
 obtain⟨n',hn'⟩:∃n',n'=n-1:=⟨_,rfl⟩
 have hr:r=(n':Int):=by omega
 have hnn:n'<n:=by omega
 rw[← hn']
 clear hn'
 subst hr
 have HU:=Lib.hid h4
 clear hN hk hn h4 h3 h5
 go_enter Tryz.func106,Tryz.ntmps106
 go_wp2_with (go_at_call 70;refine HS.out.mono ?_)
 rintro e w1 ⟨rfl,hb1⟩
 clear HS
 have e0:∀(w':World) (o:Obj),(w'.alloc o).heap.size=w'.heap.size+1:=fun w' o=>World.size_alloc w' o
 have hbb:=bt hb hb1
 have hz:w.heap.size<w1.heap.size:=by have:=hb1.size;rw[e0]at this;omega
 have hB:Bx w1 w.heap.size 24 [.slice A n c,.int .i64 (n':Int)]:=(Bx.new w 24 _).below hb1 (by rw[e0];omega)
 clear hb hb1
 have hB1:=hB.alloc (.cells (mkI n fun _=>0) 3)
 have hct0:=hB.cell 0
 have hdt0:=hB1.cell 0
 have hdt1:=hB1.cell 1
 simp only[List.getElem?_cons_zero,List.getElem?_cons_succ]at hct0 hdt0 hdt1
 have hG0:Ib (w1.alloc (.cells (mkI n fun _=>0) 3)) w1.heap.size n (fun _=>0):=World.alloc_heap_new _ _
 have hcg:=hG0.cell hnn
 have hfg:=hG0.frozen n'
 have hmk:=fun w'=>make22 n (by omega) w'
 clear hG0
 go_upto_region 6 with(fail)
 refine gen_world (fun W=>Bx W w.heap.size 24 [.slice A n c,.int .i64 (n':Int)]∧Ib W w1.heap.size n (fun j=>paL l n' 0 j)∧Below w.heap.size w W) ?_ ?_
 ·refine⟨hB.alloc _,?_,hbb.alloc hbb.size _⟩
  rw[mkI_set]
  exact World.alloc_heap_new _ _
 clear hmk hct0 hdt0 hdt1 hcg hfg hB hB1 hbb
 rintro W0 ⟨hB,hG,hbb⟩
 go_wp2
 go_loopw [5] (fun i wr=>∃p:Nat,p≤n∧i = .int .i64 (p:Int)∧Ib wr w1.heap.size n (fun j=>paL l n' p j)∧Bx wr w.heap.size 24 [.slice A n c,.int .i64 (n':Int)]∧Below w.heap.size w wr) (fun i _=>n-(intOf i).toNat)
 case atStart=>exact⟨0,Nat.zero_le _,rfl,hG,hB,hbb⟩
 case round=>
  clear hbb hB hG
  obtain⟨p,hp,rfl,hG,hB,hbw⟩:=hrel
  obtain⟨W1,rfl⟩:∃W1,W1=wr:=⟨_,rfl⟩
  have d0:=hB.cell 0
  simp only[List.getElem?_cons_zero]at d0
  by_cases hlt:p<n
  ·have hlz:(p:Int)<(n:Int):=by omega
   have hpl:p<l.length:=by rw[← HL.out];exact hlt
   obtain⟨bA,off,rfl,hbl,hc⟩:=HN.out (by omega)
   obtain⟨K,ck,_,_,_,_,c4',hI⟩:=hc p hpl
   have hks:l[p].ks.length≤4000:=HK.out _ (List.getElem_mem _)
   have hkid:∀j (hj:j<l[p].ks.length),∃m:Nat,l[p].ks[j]=m∧m<p:=fun j hj=>by
    obtain⟨m,e,hm,_⟩:=HU.out.kid hlt (k:=l[p].ks[j]) (by rw[kidsAt_eq hpl];exact List.getElem_mem _)
    exact⟨m,e,hm⟩
   have HKID:=Lib.hid hkid
   have HKA:=Lib.hid (kidsAt_eq hpl)
   clear hc hkid
   generalize l[p]=x at *
   obtain⟨kd,nn,pl,tx,ks⟩:=x
   dsimp only at c4' hI hks HKA HKID
   have hzW:w1.heap.size<W1.heap.size:=hG.lt
   go_wp2
   clear d0
   go_loopw [6] (fun i wr=>∃j:Nat,j≤ks.length∧i = .int .i64 (j:Int)∧Ib wr w1.heap.size n (fun q=>if (q:Int) ∈ ks.take j then (p:Int) else paL l n' p q)∧Bx wr w.heap.size 24 [.slice (some ⟨bA,off,none⟩) n c,.int .i64 (n':Int)]∧Below w.heap.size w wr) (fun i _=>ks.length-(intOf i).toNat)
   case atStart=>exact⟨0,Nat.zero_le _,rfl,hG.congr fun i _=>by simp,hB,hbw⟩
   case round=>
    obtain⟨j,hj,rfl,hG2,hB2,hb2⟩:=hrel
    have d0:=hB2.cell 0
    simp only[List.getElem?_cons_zero]at d0
    have c4:=(hb2.cell (p:=⟨bA,off+p*5+4,none⟩) hbl).trans c4'
    by_cases hjl:j<ks.length
    ·have hjz:(j:Int)<(ks.length:Int):=by omega
     obtain⟨bK,oK,rfl,hbK,hcK⟩:=hI (by omega)
     obtain⟨m,hm,hmp⟩:=HKID.out j hjl
     have hck:=(hb2.cell (p:=⟨bK,oK+j,none⟩) hbK).trans (hcK j hjl)
     rw[hm]at hck
     have hmn:m<n:=by omega
     have hcg:=hG2.cell hmn
     have hfg:=hG2.frozen m
     have HM:=Lib.hid hm
     clear hcK hm
     generalize (if (m:Int) ∈ ks.take j then (p:Int) else paL l n' p m)=old at hcg
     go_wp2
     go_roundw
     case rel=>
      refine⟨j+1,by omega,by go_num,(hG2.set_ m _).congr fun q _ =>?_,hB2.far (by show w.heap.size≠w1.heap.size;omega) _,hb2.setCell (p:=⟨w1.heap.size,m,none⟩) (by show _≤w1.heap.size;omega) _⟩
      rw[List.take_succ_eq_append_getElem hjl,HM.out]
      by_cases e:q=m
      ·subst e;simp
      ·have:¬(q:Int)=(m:Int):=by omega
       simp[e,this]
     case measure=>simp[intOf];omega
    ·obtain rfl:j=ks.length:=by omega
     have hjz:¬(ks.length:Int)<(ks.length:Int):=by omega
     go_wp2
     go_roundw
     case rel=>
      refine⟨p+1,by omega,by go_num,hG2.congr fun q _ =>?_,hB2,hb2⟩
      show _=(if (q:Int) ∈ kidsAt l p then (p:Int) else paL l n' p q)
      rw[HKA.out,List.take_length]
     case measure=>simp[intOf];omega
  ·obtain rfl:p=n:=by omega
   have hlz:¬(p:Int)<(p:Int):=by omega
   go_wp2
   go_ret
   exact⟨some ⟨w1.heap.size,0,none⟩,p,by simp,hG.ints,hbw⟩
theorem rparents_any (A:Option Addr)(c n:Nat)(l:List Nd)(r:Int)(w:World)(hN:Nds w A l)(hn:n=l.length)(hk:∀x ∈ l,x.ks.length≤4000):Calls Tryz.prog 106 #[.agg #[.slice A n c,.int .i64 r]] w (IsPost (par l r) w):=by
 by_cases h:Snd l r
 ·exact rparents_yes A c n l r w hN hn hk h
 ·rw[par_no h];exact rparents_no A c n l r w hN hn hk h
set_option maxRecDepth 100000 in
set_option maxHeartbeats 1500000 in
theorem rdepth_no (A:Option Addr)(c n:Nat)(l:List Nd)(r:Int)(w:World)(hN:Nds w A l)(hn:n=l.length)(hk:∀x ∈ l,x.ks.length≤4000)(h:¬Snd l r):Calls Tryz.prog 71 #[.agg #[.slice A n c,.int .i64 r]] w (IPost 0 w):=by
 have hb:Below w.heap.size w (w.alloc (.cells #[.slice A n c,.int .i64 r] 24)):=heap1 _ _
 have HS:=Lib.hid (rsound_any A c n l r _ (hN.below hb) hn hk)
 rw[sndB_false h]at HS
 clear hN hk h hn
 go_enter Tryz.func71,Tryz.ntmps71
 go_wp2_with (go_at_call 70;refine HS.out.mono ?_;rintro e w1 ⟨rfl,hb1⟩)
 go_ret
 exact⟨rfl,bt hb hb1⟩
set_option maxRecDepth 100000 in
set_option maxHeartbeats 1500000 in
theorem rdepth_yes (A:Option Addr)(c n:Nat)(l:List Nd)(r:Int)(w:World)(hN:Nds w A l)(hn:n=l.length)(hk:∀x ∈ l,x.ks.length≤4000)(h:Snd l r):Calls Tryz.prog 71 #[.agg #[.slice A n c,.int .i64 r]] w (IPost (dpL l n (n-1):Int) w):=by
 have hb:Below w.heap.size w (w.alloc (.cells #[.slice A n c,.int .i64 r] 24)):=heap1 _ _
 have HS:=Lib.hid (rsound_any A c n l r _ (hN.below hb) hn hk)
 rw[sndB_true h]at HS
 have HN:=Lib.hid hN
 have HL:=Lib.hid hn
 have HK:=Lib.hid hk
 obtain⟨b,hS⟩:=h
 obtain⟨h1,h2,h3,h4,h5⟩:=hS
 rw[← hn]at h1 h2 h3 h4
 obtain⟨n',hn'⟩:∃n',n'=n-1:=⟨_,rfl⟩
 have hr:r=(n':Int):=by omega
 have hnn:n'<n:=by omega
 rw[← hn']
 clear hn'
 subst hr
 have HU:=Lib.hid h4
 clear hN hk hn h4 h3 h5
 go_enter Tryz.func71,Tryz.ntmps71
 go_wp2_with (go_at_call 70;refine HS.out.mono ?_)
 rintro e w1 ⟨rfl,hb1⟩
 clear HS
 have e0:∀(w':World) (o:Obj),(w'.alloc o).heap.size=w'.heap.size+1:=fun w' o=>World.size_alloc w' o
 have hbb:=bt hb hb1
 have hz:w.heap.size<w1.heap.size:=by have:=hb1.size;rw[e0]at this;omega
 have hB:Bx w1 w.heap.size 24 [.slice A n c,.int .i64 (n':Int)]:=(Bx.new w 24 _).below hb1 (by rw[e0];omega)
 clear hb hb1
 have hct0:=hB.cell 0
 simp only[List.getElem?_cons_zero]at hct0
 have hmk:=fun w'=>make22 n (by omega) w'
 go_wp2
 clear hmk hct0
 go_loopw [5] (fun i wr=>∃p:Nat,p≤n∧i = .int .i64 (p:Int)∧Bx wr w.heap.size 24 [.slice A n c,.int .i64 (n':Int)]∧Ib wr w1.heap.size n (fun j=>(dpL l p j:Int))∧Below w.heap.size w wr) (fun i _=>n-(intOf i).toNat)
 case atStart=>exact⟨0,Nat.zero_le _,rfl,hB.alloc _,World.alloc_heap_new _ _,hbb.alloc hbb.size _⟩
 case round=>
  clear hbb hB
  obtain⟨p,hp,rfl,hB,hG,hbw⟩:=hrel
  have hct0:=hB.cell 0
  have hct1:=hB.cell 1
  simp only[List.getElem?_cons_zero,List.getElem?_cons_succ]at hct0 hct1
  by_cases hlt:p<n
  ·have hlz:(p:Int)<(n:Int):=by omega
   have hpl:p<l.length:=by rw[← HL.out];exact hlt
   obtain⟨bA,off,rfl,hbl,hc⟩:=HN.out (by omega)
   obtain⟨K,ck,_,_,_,_,c4',hI⟩:=hc p hpl
   have hks:l[p].ks.length≤4000:=HK.out _ (List.getElem_mem _)
   have hkid:∀j (hj:j<l[p].ks.length),∃m:Nat,l[p].ks[j]=m∧m<p:=fun j hj=>by
    obtain⟨m,e,hm,_⟩:=HU.out.kid hlt (k:=l[p].ks[j]) (by rw[kidsAt_eq hpl];exact List.getElem_mem _)
    exact⟨m,e,hm⟩
   have HKID:=Lib.hid hkid
   have HKA:=Lib.hid (kidsAt_eq hpl)
   clear hc hkid
   generalize l[p]=x at *
   obtain⟨kd,nn,pl,tx,ks⟩:=x
   dsimp only at c4' hI hks HKA HKID
   obtain⟨f,hf⟩:∃f:Nat→Nat,f=fun j=>(ks.take j).foldl (fun a k=>max a (dpL l p k.toNat)) 0:=⟨_,rfl⟩
   have HF:=Lib.hid hf
   have HF0:=Lib.hid (show f 0=0 by rw[hf];rfl)
   clear hf
   have hcg:=hG.cell hlt
   have hfg:=hG.frozen p
   generalize (dpL l p p:Int)=old at hcg
   have hzG:w1.heap.size<wr.heap.size:=hG.lt
   go_wp2
   clear hcg hfg hct0 hct1
   go_loopw [6] (fun i ws=>∃j:Nat,j≤ks.length∧i = .int .i64 (j:Int)∧Ib ws w1.heap.size n (fun q=>if q=p then (f j:Int)+1 else (dpL l p q:Int))∧Bx ws w.heap.size 24 [.slice (some ⟨bA,off,none⟩) n c,.int .i64 (n':Int)]∧Below w.heap.size w ws) (fun i _=>ks.length-(intOf i).toNat)
   case atStart=>
    refine⟨0,Nat.zero_le _,rfl,(hG.set_ p _).congr fun q _ =>?_,hB.far (by show w.heap.size≠w1.heap.size;omega) _,hbw.setCell (p:=⟨w1.heap.size,p,none⟩) (by show _≤w1.heap.size;omega) _⟩
    rw[HF0.out];rfl
   case round=>
    clear hG hB hbw hzG
    obtain⟨j,hj,rfl,hG2,hB2,hb2⟩:=hrel
    have d0:=hB2.cell 0
    simp only[List.getElem?_cons_zero]at d0
    have c4:=(hb2.cell (p:=⟨bA,off+p*5+4,none⟩) hbl).trans c4'
    by_cases hjl:j<ks.length
    ·have hjz:(j:Int)<(ks.length:Int):=by omega
     obtain⟨bK,oK,rfl,hbK,hcK⟩:=hI (by omega)
     obtain⟨m,hm,hmp⟩:=HKID.out j hjl
     have hck:=(hb2.cell (p:=⟨bK,oK+j,none⟩) hbK).trans (hcK j hjl)
     rw[hm]at hck
     have hmn:m<n:=by omega
     have hcg:=hG2.cell hlt
     have hcm:=hG2.cell hmn
     have hfg:=hG2.frozen p
     rw[if_pos rfl]at hcg
     rw[if_neg (show¬m=p by omega)]at hcm
     have hdm:dpL l p m≤4000:=by
      have h6:=(dpL_U (fun q hq=>HU.out q (by omega):StU l b p)).le (fun q hq=>HU.out q (by omega)) m hmp
      omega
     have HFS:=Lib.hid (show f (j+1)=max (f j) (dpL l p m) by
      rw[HF.out]
      show(ks.take (j+1)).foldl _ 0=_
      rw[List.take_succ_eq_append_getElem hjl,List.foldl_append,hm];rfl)
     clear hcK hm
     generalize dpL l p m=dm at *
     generalize f j=fj at *
     go_upto_region 12 with(fail)
     go_still_tail 21,(by kernel_rfl)
     change wpList _ _ _ _ _ _
     go_wp2
     go_roundw
     case rel=>
      refine⟨j+1,by omega,by go_num,(hG2.set_ p _).congr fun q _ =>?_,hB2.far (by show w.heap.size≠w1.heap.size;omega) _,bdrew (hb2.setCell (p:=⟨w1.heap.size,p,none⟩) (by show _≤w1.heap.size;omega) _)⟩
      have h9:=HFS.out
      by_cases e:q=p
      ·rw[if_pos e,if_pos e]
       first|(split<;>omega) |omega |(rw[h9,Int.natCast_max];omega) |(simp only[Int.max_def,Nat.max_def]at *;split<;>split<;>omega)
      ·rw[if_neg e,if_neg e,if_neg e]
     case measure=>simp[intOf];omega
    ·obtain rfl:j=ks.length:=by omega
     have hjz:¬(ks.length:Int)<(ks.length:Int):=by omega
     have HFE:=Lib.hid (show f ks.length+1=dpL l (p+1) p by
      show _=(if p=p then dpK (dpL l p) (kidsAt l p) else dpL l p p)
      rw[if_pos rfl,HKA.out,HF.out]
      show(ks.take ks.length).foldl _ 0+1=_
      rw[List.take_length];rfl)
     go_wp2
     go_roundw
     case rel=>
      refine⟨p+1,by omega,by go_num,hB2,hG2.congr fun q _ =>?_,hb2⟩
      have h7:=HFE.out
      by_cases e:q=p
      ·subst e;rw[if_pos rfl];omega
      ·rw[if_neg e]
       show _=((if q=p then dpK (dpL l p) (kidsAt l p) else dpL l p q:Nat):Int)
       rw[if_neg e]
     case measure=>simp[intOf];omega
  ·obtain rfl:p=n:=by omega
   have hlz:¬(p:Int)<(p:Int):=by omega
   have hcg:=hG.cell (i:=n') (by omega)
   go_wp2
   go_ret
   exact⟨rfl,hbw⟩
theorem rdepth_any (A:Option Addr)(c n:Nat)(l:List Nd)(r:Int)(w:World)(hN:Nds w A l)(hn:n=l.length)(hk:∀x ∈ l,x.ks.length≤4000):Calls Tryz.prog 71 #[.agg #[.slice A n c,.int .i64 r]] w (IPost (dpt l r:Int) w):=by
 by_cases h:Snd l r
 ·rw[dpt_yes h,← hn];exact rdepth_yes A c n l r w hN hn hk h
 ·rw[dpt_no h];exact rdepth_no A c n l r w hN hn hk h
def Is3 (w:World)(b:Nat):Prop:=∃cs,w.heap[b]?=some (.cells cs 3 (0,0))
def iv (l:List Int):List Value:=l.map fun x=>Value.int .i64 x
theorem own3 {base n:Nat}{w:World}{v:Value}{l:List Int}(hn:n=l.length)(h:w.ownsRow base 3 1 v n (iv l)):∃K c,v = .slice K n c∧Ints w K l∧(∀b off,K=some ⟨b,off,none⟩→(Is3 w b∧base≤b∧v.ownBlock=some b))∧(K=none→c=0):=by
 subst hn
 rcases h.2 with⟨rfl,e⟩ |⟨g,cap,cur,rfl,hb,hg,hn,_,_,ht⟩
 ·exact⟨none,0,by rw[e],fun h0=>by omega,fun b off e=>(by cases e),fun _=>rfl⟩
 ·refine⟨_,_,rfl,fun h0 =>?_,fun b off e=>(by cases e;exact⟨⟨cur,hg⟩,hb,rfl⟩),fun e=>(by cases e)⟩
  refine⟨g,0,rfl,(Array.getElem?_eq_some_iff.1 hg).1,fun j hj =>?_⟩
  rw[Nat.zero_add,cell_of_row w g j cur 3 (0,0) hg]
  have h2:(iv l)[j]?=some (.int .i64 l[j]):=by unfold iv;simp[hj]
  rw[← ht,List.getElem?_take,if_pos (by omega)]at h2
  simpa using h2
theorem own_belowG {base n size:Nat}{e:TypeId}{v:Value}{ls:List Value}{w w':World}(h:w.ownsRow base e size v n ls)(hb:Below w.heap.size w w'):w'.ownsRow base e size v n ls:=
 ⟨h.1,h.2.imp id fun⟨g,cap,cur,h1,h2,h3,h4⟩=>⟨g,cap,cur,h1,h2,(hb.block g (Array.getElem?_eq_some_iff.1 h3).1).trans h3,h4⟩⟩
theorem own_sliceG {base n size:Nat}{e:TypeId}{v:Value}{ls:List Value}{w:World}(h:w.ownsRow base e size v n ls):∃A c,v = .slice A n c:=by
 rcases h.2 with⟨rfl,e⟩ |⟨g,cap,cur,rfl,_⟩
 ·exact⟨_,_,by rw[e]⟩
 ·exact⟨_,_,rfl⟩
theorem iv_app (a b:List Int):iv (a++b)=iv a++iv b:=List.map_append
theorem blk_cells (w:World)(l:List Value)(t:TypeId):∀j u,l[j]?=some u→(w.alloc (.cells l.toArray t)).cell? ((⟨w.heap.size,0,none⟩:Addr).add j)=some u:=fun j u hj=>by
 have hB:=Bx.new w t l
 rw[show(⟨w.heap.size,0,none⟩:Addr).add j=⟨w.heap.size,j,none⟩by simp[Addr.add];omega,hB.cell j,hj]
theorem one1 (x:Int):∀u ∈ [Value.int .i64 x],u.oneCell'=true:=fun u hu=>by
 obtain rfl:u=_:=List.mem_singleton.1 hu
 rfl
theorem run_field30_0 (b:Nat)(w:World):(Instr.fieldAt 24 (.pointer (some ⟨b,0,none⟩)) 0).run Tryz.prog w = .ok (.pointer (some ⟨b,0,none⟩)) w:=by kernel_rfl
theorem run_field24_0 (b off:Nat)(w:World):(Instr.fieldAt 66 (.pointer (some ⟨b,off,none⟩)) 0).run Tryz.prog w = .ok (.pointer (some ⟨b,off,none⟩)) w:=by kernel_rfl
theorem run_field24_4 (b off:Nat)(w:World):(Instr.fieldAt 66 (.pointer (some ⟨b,off,none⟩)) 4).run Tryz.prog w = .ok (.pointer (some ⟨b,off+4,none⟩)) w:=by kernel_rfl
theorem run_load22 {w:World}{b off n c:Nat}{A:Option Addr}(h:w.cell? ⟨b,off,none⟩=some (.slice A n c)):(Instr.loadAt 64 (.pointer (some ⟨b,off,none⟩))).run Tryz.prog w = .ok (.slice A n c) w:=by
 simp[go_sem,h]
theorem run_load28 {w:World}{b off n c:Nat}{A:Option Addr}(h:w.cell? ⟨b,off,none⟩=some (.slice A n c)):(Instr.loadAt 22 (.pointer (some ⟨b,off,none⟩))).run Tryz.prog w = .ok (.slice A n c) w:=by
 simp[go_sem,h]
theorem run_index28 (b off n c k:Nat)(hk:k<n)(w:World):(Instr.indexAt 22 (.slice (some ⟨b,off,none⟩) n c) (.int .i64 (k:Int))).run Tryz.prog w = .ok (.pointer (some ⟨b,off+k*5,none⟩)) w:=
 run_idx (t:=22) (e:=66) (sz:=5) (by kernel_rfl) (by kernel_rfl) (by kernel_rfl) b off n c k hk w
section
variable {ops:Array Oper} {Q:Exit→Act→World→Prop} {S:World→Prop} {fuel:Nat} {listed:Array Bool} {a:Act} {w:World} {o:Oper}
theorem y_move {x:Operand}{v:Value}(ho:o.op = .move x)(hx:a.eval x=v):∀w,S w→(execOp a.eval o).run Tryz.prog w = .ok (.value v) w:=fun w _=>by unfold execOp;simp only[ho,hx,Sem.run_pure]
theorem y_field {t:TypeId}{k:Nat}{x:Operand}{ad ad':Addr}(ho:o.op = .fieldAddr t x k)(hx:a.eval x = .pointer (some ad))(hl:∀w,(Instr.fieldAt t (.pointer (some ad)) k).run Tryz.prog w = .ok (.pointer (some ad')) w):∀w,S w→(execOp a.eval o).run Tryz.prog w = .ok (.value (.pointer (some ad'))) w:=fun w _=>by
 unfold execOp;simp only[ho,hx,Sem.run_bind,hl w,Sem.run_pure,Result.andThen_ok]
theorem y_index {t:TypeId}{x y:Operand}{u v r:Value}(ho:o.op = .indexAddr t x y)(hx:a.eval x=u)(hy:a.eval y=v)(hl:∀w,(Instr.indexAt t u v).run Tryz.prog w = .ok r w):∀w,S w→(execOp a.eval o).run Tryz.prog w = .ok (.value r) w:=fun w _=>by
 unfold execOp;simp only[ho,hx,hy,Sem.run_bind,hl w,Sem.run_pure,Result.andThen_ok]
end
set_option maxRecDepth 100000 in
set_option maxHeartbeats 1500000 in
theorem statement_any (k:Int)(w:World):Calls Tryz.prog 118 #[.int .i64 k] w (BPost (stmB k) w):=by
 by_cases h1:7≤k
 ·by_cases h2:k≤17
  ·have HE:=Lib.hid (show stmB k=true by unfold stmB;simp[h1,h2])
   have q1:decide (7≤k)=true:=decide_eq_true h1
   have q2:decide (k≤17)=true:=decide_eq_true h2
   go_enter Tryz.func118,Tryz.ntmps118
   go_wp2
   go_ret
   exact⟨ret_bool HE.out.symm,Below.refl _ _⟩
  ·have HE:=Lib.hid (show stmB k=false by unfold stmB;simp[h1,h2])
   have q1:decide (7≤k)=true:=decide_eq_true h1
   have q2:decide (k≤17)=false:=decide_eq_false h2
   go_enter Tryz.func118,Tryz.ntmps118
   go_wp2
   go_ret
   exact⟨ret_bool HE.out.symm,Below.refl _ _⟩
 ·have HE:=Lib.hid (show stmB k=false by unfold stmB;simp[h1])
  have q1:decide (7≤k)=false:=decide_eq_false h1
  go_enter Tryz.func118,Tryz.ntmps118
  go_wp2
  go_ret
  exact⟨ret_bool HE.out.symm,Below.refl _ _⟩
set_option maxRecDepth 100000 in
set_option maxHeartbeats 1500000 in
theorem expression_any (k:Int)(w:World):Calls Tryz.prog 120 #[.int .i64 k] w (BPost (expB k) w):=by
 by_cases h1:20≤k
 ·by_cases h2:k≤27
  ·have HE:=Lib.hid (show expB k=true by unfold expB;simp[h1,h2])
   have q1:decide (20≤k)=true:=decide_eq_true h1
   have q2:decide (k≤27)=true:=decide_eq_true h2
   go_enter Tryz.func120,Tryz.ntmps120
   go_wp2
   go_ret
   exact⟨ret_bool HE.out.symm,Below.refl _ _⟩
  ·have HE:=Lib.hid (show expB k=false by unfold expB;simp[h1,h2])
   have q1:decide (20≤k)=true:=decide_eq_true h1
   have q2:decide (k≤27)=false:=decide_eq_false h2
   go_enter Tryz.func120,Tryz.ntmps120
   go_wp2
   go_ret
   exact⟨ret_bool HE.out.symm,Below.refl _ _⟩
 ·have HE:=Lib.hid (show expB k=false by unfold expB;simp[h1])
  have q1:decide (20≤k)=false:=decide_eq_false h1
  go_enter Tryz.func120,Tryz.ntmps120
  go_wp2
  go_ret
  exact⟨ret_bool HE.out.symm,Below.refl _ _⟩
set_option maxRecDepth 100000 in
set_option maxHeartbeats 1500000 in
theorem all_any (K:Option Addr)(n c:Nat)(l:List Int)(w:World)(hI:Ints w K l)(hn:n=l.length)(hl:n≤4000):Calls Tryz.prog 119 #[.slice K n c] w (BPost (allB l) w):=by
 have HI:=Lib.hid hI
 have HL:=Lib.hid hn
 clear hI hn
 go_enter Tryz.func119,Tryz.ntmps119
 go_wp2
 go_loopw [3] (fun i wr=>∃j:Nat,j≤n∧i = .int .i64 (j:Int)∧allB (l.take j)=true∧Below w.heap.size w wr) (fun i _=>n-(intOf i).toNat)
 case atStart=>exact⟨0,Nat.zero_le _,rfl,rfl,Below.refl _ _⟩
 case round=>
  obtain⟨j,hj,rfl,hall,hbw⟩:=hrel
  have HA:=Lib.hid hall
  clear hall
  by_cases hjl:j<n
  ·have hjz:(j:Int)<(n:Int):=by omega
   have hjl2:j<l.length:=by rw[← HL.out];exact hjl
   obtain⟨bK,oK,rfl,hbK,hcK⟩:=HI.out (by omega)
   have hck:=(hbw.cell (p:=⟨bK,oK+j,none⟩) hbK).trans (hcK j hjl2)
   have HTJ:=Lib.hid (show l.take (j+1)=l.take j++[l[j]]from List.take_succ_eq_append_getElem hjl2)
   have HMM:=Lib.hid (List.getElem_mem hjl2)
   clear hcK
   generalize l[j]=kk at *
   cases he:expB kk with
   |true=>
    have HC:=Lib.hid (expression_any kk wr)
    rw[he]at HC
    have HE:=Lib.hid he
    clear he
    go_wp2_with (go_at_call 120;refine HC.out.mono ?_;rintro e w1 ⟨rfl,hb1⟩)
    go_roundw
    case rel=>
     refine⟨j+1,by omega,by go_num,?_,bt hbw hb1⟩
     rw[HTJ.out];unfold allB;rw[List.all_append]
     have:=HA.out
     unfold allB at this
     rw[this];simp[HE.out]
    case measure=>simp[intOf];omega
   |false=>
    have HC:=Lib.hid (expression_any kk wr)
    rw[he]at HC
    have HE:=Lib.hid (show allB l=false by
     unfold allB
     rw[List.all_eq_false]
     exact⟨kk,HMM.out,by simp[he]⟩)
    clear he
    go_wp2_with (go_at_call 120;refine HC.out.mono ?_;rintro e w1 ⟨rfl,hb1⟩)
    go_ret
    exact⟨ret_bool HE.out.symm,bt hbw hb1⟩
  ·obtain rfl:j=n:=by omega
   have hjz:¬(j:Int)<(j:Int):=by omega
   have HE:=Lib.hid (show allB l=true by have:=HA.out;rw[HL.out,List.take_length]at this;exact this)
   go_wp2
   go_ret
   exact⟨ret_bool HE.out.symm,hbw⟩
set_option maxRecDepth 100000 in
set_option maxHeartbeats 1500000 in
theorem num_2 (kd n pl:Int)(tx:ByteArray)(K:Option Addr)(m c:Nat)(w:World)(hk:kd=2):Calls Tryz.prog 100 #[.agg #[.int .i64 kd,.int .i64 n,.int .i64 pl,.string tx,.slice K m c]] w (BPost (numB kd n) w):=by
 have hb:Below w.heap.size w (w.alloc (.cells #[.int .i64 kd,.int .i64 n,.int .i64 pl,.string tx,.slice K m c] 66)):=heap1 _ _
 obtain⟨W,hW⟩:∃W,w.alloc (.cells #[.int .i64 kd,.int .i64 n,.int .i64 pl,.string tx,.slice K m c] 66)=W:=⟨_,rfl⟩
 have hB:Bx W w.heap.size 66 [.int .i64 kd,.int .i64 n,.int .i64 pl,.string tx,.slice K m c]:=by rw[← hW];exact Bx.new w 66 _
 rw[hW]at hb
 have d0:=hB.cell 0
 have d1:=hB.cell 1
 simp only[List.getElem?_cons_zero,List.getElem?_cons_succ]at d0 d1
 clear hB
 subst hk
 by_cases h1:1≤n
 ·have q1:decide (1≤n)=true:=decide_eq_true h1
  by_cases h2:n≤4
  ·have q2:decide (n≤4)=true:=decide_eq_true h2
   have HE:=Lib.hid (show numB 2 n=true by unfold numB;simp[h1,h2])
   go_enter Tryz.func100,Tryz.ntmps100
   go_wp2
   go_ret
   exact⟨ret_bool HE.out.symm,hb⟩
  ·have q2:decide (n≤4)=false:=decide_eq_false h2
   have HE:=Lib.hid (show numB 2 n=false by unfold numB;simp[h2])
   go_enter Tryz.func100,Tryz.ntmps100
   go_wp2
   go_ret
   exact⟨ret_bool HE.out.symm,hb⟩
 ·have q1:decide (1≤n)=false:=decide_eq_false h1
  have HE:=Lib.hid (show numB 2 n=false by unfold numB;simp[h1])
  go_enter Tryz.func100,Tryz.ntmps100
  go_wp2
  go_ret
  exact⟨ret_bool HE.out.symm,hb⟩
set_option maxRecDepth 100000 in
set_option maxHeartbeats 1500000 in
theorem num_4 (kd n pl:Int)(tx:ByteArray)(K:Option Addr)(m c:Nat)(w:World)(hk:kd=4):Calls Tryz.prog 100 #[.agg #[.int .i64 kd,.int .i64 n,.int .i64 pl,.string tx,.slice K m c]] w (BPost (numB kd n) w):=by
 have hb:Below w.heap.size w (w.alloc (.cells #[.int .i64 kd,.int .i64 n,.int .i64 pl,.string tx,.slice K m c] 66)):=heap1 _ _
 obtain⟨W,hW⟩:∃W,w.alloc (.cells #[.int .i64 kd,.int .i64 n,.int .i64 pl,.string tx,.slice K m c] 66)=W:=⟨_,rfl⟩
 have hB:Bx W w.heap.size 66 [.int .i64 kd,.int .i64 n,.int .i64 pl,.string tx,.slice K m c]:=by rw[← hW];exact Bx.new w 66 _
 rw[hW]at hb
 have d0:=hB.cell 0
 have d1:=hB.cell 1
 simp only[List.getElem?_cons_zero,List.getElem?_cons_succ]at d0 d1
 clear hB
 subst hk
 by_cases h1:1≤n
 ·have q1:decide (1≤n)=true:=decide_eq_true h1
  by_cases h2:n≤4
  ·have q2:decide (n≤4)=true:=decide_eq_true h2
   have HE:=Lib.hid (show numB 4 n=true by unfold numB;simp[h1,h2])
   go_enter Tryz.func100,Tryz.ntmps100
   go_wp2
   go_ret
   exact⟨ret_bool HE.out.symm,hb⟩
  ·have q2:decide (n≤4)=false:=decide_eq_false h2
   have HE:=Lib.hid (show numB 4 n=false by unfold numB;simp[h2])
   go_enter Tryz.func100,Tryz.ntmps100
   go_wp2
   go_ret
   exact⟨ret_bool HE.out.symm,hb⟩
 ·have q1:decide (1≤n)=false:=decide_eq_false h1
  have HE:=Lib.hid (show numB 4 n=false by unfold numB;simp[h1])
  go_enter Tryz.func100,Tryz.ntmps100
  go_wp2
  go_ret
  exact⟨ret_bool HE.out.symm,hb⟩
set_option maxRecDepth 100000 in
set_option maxHeartbeats 1500000 in
theorem num_5 (kd n pl:Int)(tx:ByteArray)(K:Option Addr)(m c:Nat)(w:World)(hk:kd=5):Calls Tryz.prog 100 #[.agg #[.int .i64 kd,.int .i64 n,.int .i64 pl,.string tx,.slice K m c]] w (BPost (numB kd n) w):=by
 have hb:Below w.heap.size w (w.alloc (.cells #[.int .i64 kd,.int .i64 n,.int .i64 pl,.string tx,.slice K m c] 66)):=heap1 _ _
 obtain⟨W,hW⟩:∃W,w.alloc (.cells #[.int .i64 kd,.int .i64 n,.int .i64 pl,.string tx,.slice K m c] 66)=W:=⟨_,rfl⟩
 have hB:Bx W w.heap.size 66 [.int .i64 kd,.int .i64 n,.int .i64 pl,.string tx,.slice K m c]:=by rw[← hW];exact Bx.new w 66 _
 rw[hW]at hb
 have d0:=hB.cell 0
 have d1:=hB.cell 1
 simp only[List.getElem?_cons_zero,List.getElem?_cons_succ]at d0 d1
 clear hB
 subst hk
 by_cases h1:1≤n
 ·have q1:decide (1≤n)=true:=decide_eq_true h1
  by_cases h2:n≤4
  ·have q2:decide (n≤4)=true:=decide_eq_true h2
   have HE:=Lib.hid (show numB 5 n=true by unfold numB;simp[h1,h2])
   go_enter Tryz.func100,Tryz.ntmps100
   go_wp2
   go_ret
   exact⟨ret_bool HE.out.symm,hb⟩
  ·have q2:decide (n≤4)=false:=decide_eq_false h2
   have HE:=Lib.hid (show numB 5 n=false by unfold numB;simp[h2])
   go_enter Tryz.func100,Tryz.ntmps100
   go_wp2
   go_ret
   exact⟨ret_bool HE.out.symm,hb⟩
 ·have q1:decide (1≤n)=false:=decide_eq_false h1
  have HE:=Lib.hid (show numB 5 n=false by unfold numB;simp[h1])
  go_enter Tryz.func100,Tryz.ntmps100
  go_wp2
  go_ret
  exact⟨ret_bool HE.out.symm,hb⟩
set_option maxRecDepth 100000 in
set_option maxHeartbeats 1500000 in
theorem num_3 (kd n pl:Int)(tx:ByteArray)(K:Option Addr)(m c:Nat)(w:World)(hk:kd=3):Calls Tryz.prog 100 #[.agg #[.int .i64 kd,.int .i64 n,.int .i64 pl,.string tx,.slice K m c]] w (BPost (numB kd n) w):=by
 have hb:Below w.heap.size w (w.alloc (.cells #[.int .i64 kd,.int .i64 n,.int .i64 pl,.string tx,.slice K m c] 66)):=heap1 _ _
 obtain⟨W,hW⟩:∃W,w.alloc (.cells #[.int .i64 kd,.int .i64 n,.int .i64 pl,.string tx,.slice K m c] 66)=W:=⟨_,rfl⟩
 have hB:Bx W w.heap.size 66 [.int .i64 kd,.int .i64 n,.int .i64 pl,.string tx,.slice K m c]:=by rw[← hW];exact Bx.new w 66 _
 rw[hW]at hb
 have d0:=hB.cell 0
 have d1:=hB.cell 1
 simp only[List.getElem?_cons_zero,List.getElem?_cons_succ]at d0 d1
 clear hB
 subst hk
 by_cases h1:0≤n
 ·have q1:decide (0≤n)=true:=decide_eq_true h1
  by_cases h2:n≤4
  ·have q2:decide (n≤4)=true:=decide_eq_true h2
   have HE:=Lib.hid (show numB 3 n=true by unfold numB;simp[h1,h2])
   go_enter Tryz.func100,Tryz.ntmps100
   go_wp2
   go_ret
   exact⟨ret_bool HE.out.symm,hb⟩
  ·have q2:decide (n≤4)=false:=decide_eq_false h2
   have HE:=Lib.hid (show numB 3 n=false by unfold numB;simp[h2])
   go_enter Tryz.func100,Tryz.ntmps100
   go_wp2
   go_ret
   exact⟨ret_bool HE.out.symm,hb⟩
 ·have q1:decide (0≤n)=false:=decide_eq_false h1
  have HE:=Lib.hid (show numB 3 n=false by unfold numB;simp[h1])
  go_enter Tryz.func100,Tryz.ntmps100
  go_wp2
  go_ret
  exact⟨ret_bool HE.out.symm,hb⟩
set_option maxRecDepth 100000 in
set_option maxHeartbeats 1500000 in
theorem num_20 (kd n pl:Int)(tx:ByteArray)(K:Option Addr)(m c:Nat)(w:World)(hk:kd=20):Calls Tryz.prog 100 #[.agg #[.int .i64 kd,.int .i64 n,.int .i64 pl,.string tx,.slice K m c]] w (BPost (numB kd n) w):=by
 have hb:Below w.heap.size w (w.alloc (.cells #[.int .i64 kd,.int .i64 n,.int .i64 pl,.string tx,.slice K m c] 66)):=heap1 _ _
 obtain⟨W,hW⟩:∃W,w.alloc (.cells #[.int .i64 kd,.int .i64 n,.int .i64 pl,.string tx,.slice K m c] 66)=W:=⟨_,rfl⟩
 have hB:Bx W w.heap.size 66 [.int .i64 kd,.int .i64 n,.int .i64 pl,.string tx,.slice K m c]:=by rw[← hW];exact Bx.new w 66 _
 rw[hW]at hb
 have d0:=hB.cell 0
 have d1:=hB.cell 1
 simp only[List.getElem?_cons_zero,List.getElem?_cons_succ]at d0 d1
 clear hB
 subst hk
 by_cases h1:0≤n
 ·have q1:decide (0≤n)=true:=decide_eq_true h1
  have HE:=Lib.hid (show numB 20 n=true by unfold numB;simp[h1])
  go_enter Tryz.func100,Tryz.ntmps100
  go_wp2
  go_ret
  exact⟨ret_bool HE.out.symm,hb⟩
 ·have q1:decide (0≤n)=false:=decide_eq_false h1
  have HE:=Lib.hid (show numB 20 n=false by unfold numB;simp[h1])
  go_enter Tryz.func100,Tryz.ntmps100
  go_wp2
  go_ret
  exact⟨ret_bool HE.out.symm,hb⟩
set_option maxRecDepth 100000 in
set_option maxHeartbeats 1500000 in
theorem num_21 (kd n pl:Int)(tx:ByteArray)(K:Option Addr)(m c:Nat)(w:World)(hk:kd=21):Calls Tryz.prog 100 #[.agg #[.int .i64 kd,.int .i64 n,.int .i64 pl,.string tx,.slice K m c]] w (BPost (numB kd n) w):=by
 have hb:Below w.heap.size w (w.alloc (.cells #[.int .i64 kd,.int .i64 n,.int .i64 pl,.string tx,.slice K m c] 66)):=heap1 _ _
 obtain⟨W,hW⟩:∃W,w.alloc (.cells #[.int .i64 kd,.int .i64 n,.int .i64 pl,.string tx,.slice K m c] 66)=W:=⟨_,rfl⟩
 have hB:Bx W w.heap.size 66 [.int .i64 kd,.int .i64 n,.int .i64 pl,.string tx,.slice K m c]:=by rw[← hW];exact Bx.new w 66 _
 rw[hW]at hb
 have d0:=hB.cell 0
 have d1:=hB.cell 1
 simp only[List.getElem?_cons_zero,List.getElem?_cons_succ]at d0 d1
 clear hB
 subst hk
 by_cases h1:n=0
 ·subst h1
  have HE:=Lib.hid (show numB 21 0=true by unfold numB;simp)
  go_enter Tryz.func100,Tryz.ntmps100
  go_wp2
  go_ret
  exact⟨ret_bool HE.out.symm,hb⟩
 ·have q1:(n==0)=false:=by simp[h1]
  by_cases h2:n=1
  ·subst h2
   clear q1 h1
   have HE:=Lib.hid (show numB 21 1=true by unfold numB;simp)
   go_enter Tryz.func100,Tryz.ntmps100
   go_wp2
   go_ret
   exact⟨ret_bool HE.out.symm,hb⟩
  ·have q2:(n==1)=false:=by simp[h2]
   have HE:=Lib.hid (show numB 21 n=false by unfold numB;simp[h1,h2])
   go_enter Tryz.func100,Tryz.ntmps100
   go_wp2
   go_ret
   exact⟨ret_bool HE.out.symm,hb⟩
set_option maxRecDepth 100000 in
set_option maxHeartbeats 1500000 in
theorem num_no (kd n pl:Int)(tx:ByteArray)(K:Option Addr)(m c:Nat)(w:World)(g2:¬kd=2)(g4:¬kd=4)(g5:¬kd=5)(g3:¬kd=3)(g20:¬kd=20)(g21:¬kd=21):Calls Tryz.prog 100 #[.agg #[.int .i64 kd,.int .i64 n,.int .i64 pl,.string tx,.slice K m c]] w (BPost (numB kd n) w):=by
 have hb:Below w.heap.size w (w.alloc (.cells #[.int .i64 kd,.int .i64 n,.int .i64 pl,.string tx,.slice K m c] 66)):=heap1 _ _
 obtain⟨W,hW⟩:∃W,w.alloc (.cells #[.int .i64 kd,.int .i64 n,.int .i64 pl,.string tx,.slice K m c] 66)=W:=⟨_,rfl⟩
 have hB:Bx W w.heap.size 66 [.int .i64 kd,.int .i64 n,.int .i64 pl,.string tx,.slice K m c]:=by rw[← hW];exact Bx.new w 66 _
 rw[hW]at hb
 have d0:=hB.cell 0
 have d1:=hB.cell 1
 simp only[List.getElem?_cons_zero,List.getElem?_cons_succ]at d0 d1
 clear hB
 have k2:(kd==2)=false:=by simp[g2]
 have k4:(kd==4)=false:=by simp[g4]
 have k5:(kd==5)=false:=by simp[g5]
 have k3:(kd==3)=false:=by simp[g3]
 have k20:(kd==20)=false:=by simp[g20]
 have k21:(kd==21)=false:=by simp[g21]
 by_cases h1:n=0
 ·subst h1
  have HE:=Lib.hid (show numB kd 0=true by unfold numB;simp[g2,g4,g5,g3,g20,g21])
  go_enter Tryz.func100,Tryz.ntmps100
  go_wp2
  go_ret
  exact⟨ret_bool HE.out.symm,hb⟩
 ·have q1:(n==0)=false:=by simp[h1]
  have HE:=Lib.hid (show numB kd n=false by unfold numB;simp[h1,g2,g4,g5,g3,g20,g21])
  go_enter Tryz.func100,Tryz.ntmps100
  go_wp2
  go_ret
  exact⟨ret_bool HE.out.symm,hb⟩
theorem numbers_any (kd n pl:Int)(tx:ByteArray)(K:Option Addr)(m c:Nat)(w:World):Calls Tryz.prog 100 #[.agg #[.int .i64 kd,.int .i64 n,.int .i64 pl,.string tx,.slice K m c]] w (BPost (numB kd n) w):=by
 by_cases g2:kd=2
 ·exact num_2 kd n pl tx K m c w g2
 by_cases g4:kd=4
 ·exact num_4 kd n pl tx K m c w g4
 by_cases g5:kd=5
 ·exact num_5 kd n pl tx K m c w g5
 by_cases g3:kd=3
 ·exact num_3 kd n pl tx K m c w g3
 by_cases g20:kd=20
 ·exact num_20 kd n pl tx K m c w g20
 by_cases g21:kd=21
 ·exact num_21 kd n pl tx K m c w g21
 exact num_no kd n pl tx K m c w g2 g4 g5 g3 g20 g21
theorem run1_at (a:Int)(l:List Int)(i:Nat)(h:i<l.length):run1 a (l.drop i)=if l[i]=a then run1 a (l.drop (i+1))+1 else 0:=by
 rw[List.drop_eq_getElem_cons h];rfl
set_option maxRecDepth 100000 in
set_option maxHeartbeats 1500000 in
theorem rises_any (K:Option Addr)(n cc:Nat)(l:List Int)(a b c:Int)(w:World)(hI:Ints w K l)(hn:n=l.length)(hl:n≤4000):Calls Tryz.prog 117 #[.slice K n cc,.int .i64 a,.int .i64 b,.int .i64 c] w (BPost (risB l a b c) w):=by
 have HI:=Lib.hid hI
 have HL:=Lib.hid hn
 clear hI hn
 go_enter Tryz.func117,Tryz.ntmps117
 go_wp2
 go_loop [9] (fun i=>∃j:Nat,j≤n∧i = .int .i64 (j:Int)∧j+run1 a (l.drop j)=ri1 l a) (fun i=>n-(intOf i).toNat)
 case atStart=>exact⟨0,Nat.zero_le _,rfl,by rw[List.drop_zero];unfold ri1;omega⟩
 case round=>
  obtain⟨j,hj,rfl,hrun⟩:=hrel
  have HR:=Lib.hid hrun
  clear hrun
  by_cases hjl:j<n
  ·have hjz:(j:Int)<(n:Int):=by omega
   have hjl2:j<l.length:=by rw[← HL.out];exact hjl
   obtain⟨bK,oK,eK,hbK,hcK⟩:=HI.out (by omega)
   have hck:=hcK j hjl2
   have HRA:=Lib.hid (run1_at a l j hjl2)
   clear hcK
   by_cases g:l[j]=a
   ·have HR3:=Lib.hid (show j+1+run1 a (l.drop (j+1))=ri1 l a by have h1:=HR.out;rw[HRA.out,if_pos g]at h1;omega)
    have q5:(a==a)=true:=by simp
    rw[g]at hck
    cases eK
    clear g HR HRA
    go_wp2
    go_round
    case rel=>exact⟨j+1,by omega,by go_num,HR3.out⟩
    case measure=>simp[intOf];omega
   ·have HJ:=Lib.hid (show j=ri1 l a by have h1:=HR.out;rw[HRA.out,if_neg g]at h1;omega)
    have q5:(l[j]==a)=false:=by simpa using g
    obtain⟨kj,hkj⟩:∃kj,l[j]=kj:=⟨_,rfl⟩
    rw[hkj]at hck q5
    cases eK
    clear g HR HRA hkj
    go_wp2
    go_loop [9] (fun i=>∃t:Nat,t≤n∧i = .int .i64 (t:Int)∧t+run1 b (l.drop t)=ri2 l a b) (fun i=>n-(intOf i).toNat)
    case atStart=>exact⟨j,hj,rfl,by unfold ri2;rw[← HJ.out]⟩
    case round=>
     clear hjz
     obtain⟨i,hi,rfl,hrun⟩:=hrel
     have HR2:=Lib.hid hrun
     clear hrun
     by_cases hil:i<n
     ·have hiz:(i:Int)<(n:Int):=by omega
      have hil2:i<l.length:=by rw[← HL.out];exact hil
      obtain⟨bL,oL,eL,hbL,hcL⟩:=HI.out (by omega)
      have hcl:=hcL i hil2
      have HRA2:=Lib.hid (run1_at b l i hil2)
      clear hcL
      by_cases g:l[i]=b
      ·have HR3:=Lib.hid (show i+1+run1 b (l.drop (i+1))=ri2 l a b by have h1:=HR2.out;rw[HRA2.out,if_pos g]at h1;omega)
       have q5:(b==b)=true:=by simp
       rw[g]at hcl
       cases eL
       clear g HR2 HRA2
       go_wp2
       go_round
       case rel=>exact⟨i+1,by omega,by go_num,HR3.out⟩
       case measure=>simp[intOf];omega
      ·have HEQ:=Lib.hid (show i=ri2 l a b by have h1:=HR2.out;rw[HRA2.out,if_neg g]at h1;omega)
       have q5:(l[i]==b)=false:=by simpa using g
       obtain⟨ki,hki⟩:∃ki,l[i]=ki:=⟨_,rfl⟩
       rw[hki]at hcl q5
       cases eL
       have HKI:=Lib.hid hki
       clear g HR2 HRA2 hki
       have hi1:i≤l.length:=by rw[← HL.out];exact hi
       by_cases hc:c=0
       ·subst hc
        by_cases e:i=n
        ·subst e
         have HE:=Lib.hid (show risB l a b 0=true by unfold risB;rw[if_pos rfl];exact decide_eq_true (by rw[← HEQ.out];exact HL.out))
         go_wp2
         go_ret
         exact⟨ret_bool HE.out.symm,Below.refl _ _⟩
        ·have q2:((i:Int)==(n:Int))=false:=by simp;omega
         have HE:=Lib.hid (show risB l a b 0=false by unfold risB;rw[if_pos rfl];exact decide_eq_false (by rw[← HEQ.out,← HL.out];exact e))
         go_wp2
         go_ret
         exact⟨ret_bool HE.out.symm,Below.refl _ _⟩
       ·have qc:(c != 0)=true:=by simpa using hc
        by_cases e:i+1=n
        ·have hil:i<l.length:=by rw[← HL.out];omega
         have q2:((i:Int)==(n:Int)-1)=true:=by simp;omega
         have hin:i<n:=by omega
         have HGD:=Lib.hid (show l.getD (ri2 l a b) 0=ki by rw[← HEQ.out];simp[List.getD,hil];exact HKI.out)
         have HE1:=Lib.hid (show ri2 l a b+1=l.length by rw[← HEQ.out,← HL.out];exact e)
         by_cases g:ki=c
         ·subst g
          have HE:=Lib.hid (show risB l a b ki=true by unfold risB;rw[if_neg hc,HGD.out];simp[HE1.out])
          clear hc
          go_wp2
          go_ret
          exact⟨ret_bool HE.out.symm,Below.refl _ _⟩
         ·have q3:(ki==c)=false:=by simpa using g
          have HE:=Lib.hid (show risB l a b c=false by unfold risB;rw[if_neg hc,HGD.out];simp[g])
          clear hc g
          go_wp2
          go_ret
          exact⟨ret_bool HE.out.symm,Below.refl _ _⟩
        ·have q2:((i:Int)==(n:Int)-1)=false:=by simp;omega
         have HE:=Lib.hid (show risB l a b c=false by unfold risB;rw[if_neg hc,← HEQ.out,← HL.out];simp[e])
         clear hc
         go_wp2
         go_ret
         exact⟨ret_bool HE.out.symm,Below.refl _ _⟩
     ·obtain rfl:i=n:=by omega
      have hiz:¬(i:Int)<(i:Int):=by omega
      have HEQ:=Lib.hid (show i=ri2 l a b by have h1:=HR2.out;have h2:=HL.out;rw[List.drop_of_length_le (by omega)]at h1;simpa [run1]using h1)
      clear HR2
      have hi1:i≤l.length:=by rw[← HL.out];exact hi
      by_cases hc:c=0
      ·subst hc
       by_cases e:i=i
       ·clear e
        have HE:=Lib.hid (show risB l a b 0=true by unfold risB;rw[if_pos rfl];exact decide_eq_true (by rw[← HEQ.out];exact HL.out))
        go_wp2
        go_ret
        exact⟨ret_bool HE.out.symm,Below.refl _ _⟩
       ·exact absurd rfl e
      ·have qc:(c != 0)=true:=by simpa using hc
       have e:¬i+1=i:=by omega
       have q2:((i:Int)==(i:Int)-1)=false:=by simp;omega
       have HE:=Lib.hid (show risB l a b c=false by unfold risB;rw[if_neg hc,← HEQ.out,← HL.out];simp)
       clear hc
       go_wp2
       go_ret
       exact⟨ret_bool HE.out.symm,Below.refl _ _⟩
  ·obtain rfl:j=n:=by omega
   have hjz:¬(j:Int)<(j:Int):=by omega
   have HJ:=Lib.hid (show j=ri1 l a by have h1:=HR.out;have h2:=HL.out;rw[List.drop_of_length_le (by omega)]at h1;simpa [run1]using h1)
   clear HR
   go_wp2
   go_loop [9] (fun i=>∃t:Nat,t≤j∧i = .int .i64 (t:Int)∧t+run1 b (l.drop t)=ri2 l a b) (fun i=>j-(intOf i).toNat)
   case atStart=>exact⟨j,hj,rfl,by unfold ri2;rw[← HJ.out]⟩
   case round=>
    clear hjz
    obtain⟨i,hi,rfl,hrun⟩:=hrel
    have HR2:=Lib.hid hrun
    clear hrun
    by_cases hil:i<j
    ·have hiz:(i:Int)<(j:Int):=by omega
     have hil2:i<l.length:=by rw[← HL.out];exact hil
     obtain⟨bL,oL,eL,hbL,hcL⟩:=HI.out (by omega)
     have hcl:=hcL i hil2
     have HRA2:=Lib.hid (run1_at b l i hil2)
     clear hcL
     by_cases g:l[i]=b
     ·have HR3:=Lib.hid (show i+1+run1 b (l.drop (i+1))=ri2 l a b by have h1:=HR2.out;rw[HRA2.out,if_pos g]at h1;omega)
      have q5:(b==b)=true:=by simp
      rw[g]at hcl
      cases eL
      clear g HR2 HRA2
      go_wp2
      go_round
      case rel=>exact⟨i+1,by omega,by go_num,HR3.out⟩
      case measure=>simp[intOf];omega
     ·have HEQ:=Lib.hid (show i=ri2 l a b by have h1:=HR2.out;rw[HRA2.out,if_neg g]at h1;omega)
      have q5:(l[i]==b)=false:=by simpa using g
      obtain⟨ki,hki⟩:∃ki,l[i]=ki:=⟨_,rfl⟩
      rw[hki]at hcl q5
      cases eL
      have HKI:=Lib.hid hki
      clear g HR2 HRA2 hki
      have hi1:i≤l.length:=by rw[← HL.out];exact hi
      by_cases hc:c=0
      ·subst hc
       by_cases e:i=j
       ·subst e
        have HE:=Lib.hid (show risB l a b 0=true by unfold risB;rw[if_pos rfl];exact decide_eq_true (by rw[← HEQ.out];exact HL.out))
        go_wp2
        go_ret
        exact⟨ret_bool HE.out.symm,Below.refl _ _⟩
       ·have q2:((i:Int)==(j:Int))=false:=by simp;omega
        have HE:=Lib.hid (show risB l a b 0=false by unfold risB;rw[if_pos rfl];exact decide_eq_false (by rw[← HEQ.out,← HL.out];exact e))
        go_wp2
        go_ret
        exact⟨ret_bool HE.out.symm,Below.refl _ _⟩
      ·have qc:(c != 0)=true:=by simpa using hc
       by_cases e:i+1=j
       ·have hil:i<l.length:=by rw[← HL.out];omega
        have q2:((i:Int)==(j:Int)-1)=true:=by simp;omega
        have hin:i<j:=by omega
        have HGD:=Lib.hid (show l.getD (ri2 l a b) 0=ki by rw[← HEQ.out];simp[List.getD,hil];exact HKI.out)
        have HE1:=Lib.hid (show ri2 l a b+1=l.length by rw[← HEQ.out,← HL.out];exact e)
        by_cases g:ki=c
        ·subst g
         have HE:=Lib.hid (show risB l a b ki=true by unfold risB;rw[if_neg hc,HGD.out];simp[HE1.out])
         clear hc
         go_wp2
         go_ret
         exact⟨ret_bool HE.out.symm,Below.refl _ _⟩
        ·have q3:(ki==c)=false:=by simpa using g
         have HE:=Lib.hid (show risB l a b c=false by unfold risB;rw[if_neg hc,HGD.out];simp[g])
         clear hc g
         go_wp2
         go_ret
         exact⟨ret_bool HE.out.symm,Below.refl _ _⟩
       ·have q2:((i:Int)==(j:Int)-1)=false:=by simp;omega
        have HE:=Lib.hid (show risB l a b c=false by unfold risB;rw[if_neg hc,← HEQ.out,← HL.out];simp[e])
        clear hc
        go_wp2
        go_ret
        exact⟨ret_bool HE.out.symm,Below.refl _ _⟩
    ·obtain rfl:i=j:=by omega
     have hiz:¬(i:Int)<(i:Int):=by omega
     have HEQ:=Lib.hid (show i=ri2 l a b by have h1:=HR2.out;have h2:=HL.out;rw[List.drop_of_length_le (by omega)]at h1;simpa [run1]using h1)
     clear HR2
     have hi1:i≤l.length:=by rw[← HL.out];exact hi
     by_cases hc:c=0
     ·subst hc
      by_cases e:i=i
      ·clear e
       have HE:=Lib.hid (show risB l a b 0=true by unfold risB;rw[if_pos rfl];exact decide_eq_true (by rw[← HEQ.out];exact HL.out))
       go_wp2
       go_ret
       exact⟨ret_bool HE.out.symm,Below.refl _ _⟩
      ·exact absurd rfl e
     ·have qc:(c != 0)=true:=by simpa using hc
      have e:¬i+1=i:=by omega
      have q2:((i:Int)==(i:Int)-1)=false:=by simp;omega
      have HE:=Lib.hid (show risB l a b c=false by unfold risB;rw[if_neg hc,← HEQ.out,← HL.out];simp)
      clear hc
      go_wp2
      go_ret
      exact⟨ret_bool HE.out.symm,Below.refl _ _⟩
end Go.Proofs.YtignojhijmamhaaGreat.Ty.Tr
