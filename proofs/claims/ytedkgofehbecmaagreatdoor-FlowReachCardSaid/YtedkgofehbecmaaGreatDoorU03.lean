/- PROVED here: parts N03 of the claim. No condition but those in each theorem's own head. -/
import Derived.Test.YtedkgofehbecmaaGreatDoorU02
namespace Go.Proofs.YtedkgofehbecmaaGreatDoor.Tr
open Go.Lib (hid)
open Go Go.RowKit Go.Shelf
attribute [local go_sem] Oper.semAt_some
def Sd (l:List Nd)(r:Int)(b:Nat->Nat):Prop:=1<=l.length/\l.length<=4000/\r=(l.length:Int)-1/\StU l b l.length/\b (l.length-1)=0
def StPost (l:List Nd)(r:Int)(w:World)(e:Ending)(w':World):Prop:=Below w.heap.size w w' /\
 ((∃b g,Sd l r b/\e = .returned (.slice (some ⟨g,0,none⟩) l.length l.length)/\Ib w' g l.length (λj=>(b j:Int))/\w.heap.size<=g)\/((∀b,¬Sd l r b)/\e = .returned (.slice none 0 0)))
theorem stK_app {b:Nat->Nat}:∀(p r:List Int) (s:Nat),stK b (p++r) s=(stK b p s).bind (stK b r)
 | [],_,_=>rfl
 |k :: p,r,s=>by
  rw[List.cons_append]
  unfold stK
  split
  ·rfl
  split
  ·exact stK_app p r _
  ·rfl
theorem stK_snoc {b:Nat->Nat}{p:List Int}{s e:Nat}{k:Int}(h:stK b p s=some e):stK b (p++[k]) s=if e=0 then none else if k=(e:Int)-1 then some (b (e-1)) else none:=by
 rw[stK_app,h];rfl
theorem StU.fail {l:List Nd}{b:Nat->Nat}{p:Nat}(h:StU l b p)(hf:stK b (kidsAt l p).reverse p=none)(c:Nat->Nat){n:Nat}(hp:p<n):¬StU l c n:=λk=>by
 have h1:∀q,q<p->b q=c q:=h.uniq (λq hq=>k q (by omega))
 rw[stK_congr _ p h1 h.le,k p hp]at hf
 cases hf
theorem StU.step {l:List Nd}{b:Nat->Nat}{p s:Nat}(h:StU l b p)(hs:stK b (kidsAt l p).reverse p=some s):StU l (λj=>if j=p then s else b j) (p+1):=λq hq=>by
 have hc:stK b (kidsAt l q).reverse q=stK (λj=>if j=p then s else b j) (kidsAt l q).reverse q:=
  stK_congr _ q (λr hr=>by show b r=if r=p then s else b r;rw[if_neg (by omega)]) (λr hr=>h.le r (by omega))
 rw[<- hc]
 by_cases e:q=p
 ·subst e;show _=some (if q=q then s else b q);rw[if_pos rfl];exact hs
 ·show _=some (if q=p then s else b q);rw[if_neg e];exact h q (by omega)
def Marks (lo:Nat)(w:World):List Deferred->Nat->Prop
 | [],_=>True
 |d :: ds,hi=>∃D,d = { target :=.collected D,args := #[] }/\lo<=D/\D<hi/\w.heap[D]?=some (.deferred (some []))/\Marks lo w ds D
theorem Marks.mono {lo:Nat}{w:World}:∀ {ds:List Deferred} {h k:Nat},Marks lo w ds h->h<=k->Marks lo w ds k
 | [],_,_,_,_=>trivial
 |_ :: _,_,_,⟨D,e,h1,h2,h3,h4⟩,hk=>⟨D,e,h1,Nat.lt_of_lt_of_le h2 hk,h3,h4⟩
theorem Marks.keep {lo:Nat}{w w':World}:∀ {ds:List Deferred} {h:Nat},Marks lo w ds h->(∀D,D<h->w.heap[D]?=some (.deferred (some []))->w'.heap[D]?=some (.deferred (some [])))->Marks lo w' ds h
 | [],_,_,_=>trivial
 |_ :: _,_,⟨D,e,h1,h2,h3,h4⟩,hk=>⟨D,e,h1,h2,hk D h2 h3,h4.keep λD' hD'=>hk D' (by omega)⟩
def CellsKept (w w':World):Prop:=∀(k:Nat) (o:Obj),w.heap[k]?=some o->o.isCells=true->w'.heap[k]?=some o
theorem leave_marks {F:Fence}{n:Nat}{P:Program}{fn:Func}{tmps:Array Value}{R:Ending->World->Prop}{lo:Nat}:∀(ds:List Deferred) (hi:Nat) (w:World),Marks lo w ds hi ->
  (∀w',Below lo w w'->CellsKept w w'->LeavesIn F n P fn tmps R [] .returning w')->LeavesInM F n P fn tmps R ds .returning w
 | [],_,w,_,k=>k w (Below.refl _ _) (λ_ _ h _=>h)
 |_ :: ds,hi,w,⟨D,e,h1,h2,h3,h4⟩,k=>by
  subst e
  refine⟨by simp,.inl ⟨D,_,rfl,run_takeDeferred h3,?_⟩⟩
  refine leave_marks ds D _ (h4.keep λD' hD' h=>(World.putObj_heap_other (by omega)).trans h) λw' hb hc=>k w' ?_ ?_
  ·have h5:Below lo w (w.putObj D (.deferred none)):=⟨rfl,rfl,rfl,by simp[World.putObj],λj hj=>World.putObj_heap_other (by omega)⟩
   exact h5.trans hb
  ·intro j o hj ho
   refine hc j o ((World.putObj_heap_other ?_).trans hj) ho
   rintro rfl
   rw[h3]at hj
   cases hj
   cases ho
structure StM (A:Option Addr) (c n:Nat) (w:World) (b:Nat->Nat) (ds:List Deferred) (hi:Nat) (W:World):Prop where
 t:Bx W w.heap.size 24 [.slice A n c,.int .i64 ((n:Int)-1)]
 r:Bx W (w.heap.size+1) 28 [.slice none 0 0]
 g:Ib W (w.heap.size+1+1) n (λj=>(b j:Int))
 s:Bx W (w.heap.size+1+1+1) 28 [.slice (some ⟨w.heap.size+1+1,0,none⟩) n n]
 b:Below w.heap.size w W
 m:Marks w.heap.size W ds hi
theorem ne_row {W:World}{k:Nat}{row:Option Nat}{B:Nat}{cs:Array Value}{t:TypeId}{fr:Nat × Nat}(h:W.heap[k]?=some (.cells cs t fr))(hr:∀r,row=some r->B<=r/\∃o:Obj,W.heap[r]?=some o/\o.isCells=false):some k≠row:=by
 rintro rfl
 obtain⟨_,o,ho,hc⟩:=hr k rfl
 rw[h]at ho;cases ho;cases hc
section
variable {A:Option Addr} {c n:Nat} {w W W':World} {b:Nat->Nat} {ds:List Deferred} {hi:Nat}
theorem StM.own {row:Option Nat}{B:Nat}(h:StM A c n w b ds hi W)(hg:W.grownBy W' row)(hr:∀r,row=some r->B<=r/\∃o:Obj,W.heap[r]?=some o/\o.isCells=false)(h1:hi<=B)(h2:w.heap.size<=B)(h3:hi<=W.heap.size):StM A c n w b ds hi W':=
 ⟨h.t.grown hg (ne_row h.t hr),h.r.grown hg (ne_row h.r hr),h.g.grown hg (ne_row h.g hr),h.s.grown hg (ne_row h.s hr),h.b.grown hg h.b.size (λk e=>Nat.le_trans h2 (hr k e).1),
  h.m.keep λD hD hd=>(hg.block D (by omega) (λe=>by have:=(hr D e.symm).1;omega)).trans hd⟩
theorem StM.alloc (h:StM A c n w b ds hi W)(h3:hi<=W.heap.size)(o:Obj):StM A c n w b ds hi (W.alloc o):=
 h.own (World.grownBy_alloc W o none) (B:=W.heap.size) (by simp) h3 h.b.size h3
theorem StM.far (h:StM A c n w b ds hi W){k i:Nat}{u:Value}(hk:w.heap.size+1+1+1<k)(hc:∀D,D<hi->W.heap[D]?=some (.deferred (some []))->D≠k):StM A c n w b ds hi (W.setCell ⟨k,i,none⟩ u):=
 ⟨h.t.far (by show _≠k;omega) _,h.r.far (by show _≠k;omega) _,h.g.far (by show _≠k;omega) _,h.s.far (by show _≠k;omega) _,h.b.setCell (p:=⟨k,i,none⟩) (by show _<=k;omega) _,
  h.m.keep λD hD hd=>(heap_setCell_other W _ D _ (hc D hD hd)).trans hd⟩
theorem StM.res (h:StM A c n w b ds hi W):StM A c n w b ds hi (W.setCell ⟨w.heap.size+1,0,none⟩ (.slice none 0 0)):=
 ⟨h.t.far (by show _≠w.heap.size+1;omega) _,h.r.set_ 0 _,h.g.far (by show _≠w.heap.size+1;omega) _,h.s.far (by show _≠w.heap.size+1;omega) _,h.b.setCell (p:=⟨w.heap.size+1,0,none⟩) (by show _<=w.heap.size+1;omega) _,
  h.m.keep λD hD hd=>(heap_setCell_other W _ D _ (λe=>by have e':D=w.heap.size+1:=e;subst e';have:=h.r;unfold Bx at this;rw[this]at hd;cases hd)).trans hd⟩
theorem StM.put (h:StM A c n w b ds hi W)(p s:Nat):StM A c n w (λj=>if j=p then s else b j) ds hi (W.setCell ⟨w.heap.size+1+1,p,none⟩ (.int .i64 (s:Int))):=
 ⟨h.t.far (by show _≠w.heap.size+1+1;omega) _,h.r.far (by show _≠w.heap.size+1+1;omega) _,(h.g.set_ p _).congr (λi _=>by split<;>rfl),h.s.far (by show _≠w.heap.size+1+1;omega) _,h.b.setCell (p:=⟨w.heap.size+1+1,p,none⟩) (by show _<=w.heap.size+1+1;omega) _,
  h.m.keep λD hD hd=>(heap_setCell_other W _ D _ (λe=>by have e':D=w.heap.size+1+1:=e;subst e';have:=h.g;unfold Ib at this;rw[this]at hd;cases hd)).trans hd⟩
end
set_option maxRecDepth 100000 in
set_option maxHeartbeats 1500000 in
theorem starts_go (A:Option Addr)(c:Nat)(l:List Nd)(r:Int)(w:World)(hN:Nds w A l)(h0:1<=l.length)(h1:l.length<=4000)(h2:r=(l.length:Int)-1)(hk:∀x ∈ l,x.ks.length<=4000):CallsIn Fence.wide 2 Tryz.prog 72 #[.agg #[.slice A l.length c,.int .i64 r]] w (StPost l r w):=by
 have HN:=hid hN
 have HK:=hid hk
 clear hN hk
 obtain⟨n,hn⟩:∃n,n=l.length:=⟨_,rfl⟩
 have HL:=hid hn
 rw[<- hn]at h0 h1 h2 |-
 clear hn
 have q1:((n:Int)==0)=false:=by simp;omega
 have q2:¬(4000:Int)<(n:Int):=by omega
 have q3:(r != (n:Int)-1)=false:=by simp[h2]
 refine callsIn_of_wp_marks Tryz.func72 rfl trivial ?_ rfl
 simp only[Tryz.ntmps72,List.size_toArray,List.length_cons,List.length_nil,Nat.reduceAdd,Nat.reduceSub,Array.replicate_succ,Array.replicate_zero,List.push_toArray,List.append_toArray,List.nil_append,List.cons_append]
 have hmk:=λw'=>make22 n (by omega) w'
 gi_wp2
 clear hmk
 refine wpIn_loop (λa' W=>∃(p:Nat) (b:Nat->Nat) (ds:List Deferred) (u5 u6 u7 u8 u9 u32 u33 u34 u35 u36 u37 u38 u39 u40 u41 u42 u43 u44 u45 u46 u47 u48 u49 u50 u51 u52 u53 u54 u55 u56 u57 u58:Value),(p<=n/\StU l b p/\StM A c n w b ds W.heap.size W)/\a' = { tmps := #[.agg #[.slice A n c,.int .i64 ((n:Int)-1)],.pointer (some ⟨w.heap.size,0,none⟩),.pointer (some ⟨w.heap.size+1,0,none⟩),.int .i64 (n:Int),.pointer (some ⟨w.heap.size+1+1+1,0,none⟩),u5,u6,u7,u8,u9,.pointer (some ⟨w.heap.size,0,none⟩),.slice A n c,.int .i64 (n:Int),.int .i64 (n:Int),.bool false,.bool false,.int .i64 (n:Int),.bool false,.bool false,.bool false,.pointer (some ⟨w.heap.size,1,none⟩),.int .i64 ((n:Int)-1),.int .i64 (n:Int),.int .i64 ((n:Int)-1),.bool false,.bool false,.int .i64 (n:Int),.slice (some ⟨w.heap.size+1+1,0,none⟩) n n,.pointer (some ⟨w.heap.size,0,none⟩),.slice A n c,.int .i64 (n:Int),.int .i64 (p:Int),u32,u33,u34,u35,u36,u37,u38,u39,u40,u41,u42,u43,u44,u45,u46,u47,u48,u49,u50,u51,u52,u53,u54,u55,u56,u57,u58,undef,undef,undef,undef,undef,undef,undef],defers:=ds }) (λa' _=>n-(intOf (a'.tmps.getD 31 undef)).toNat) ?_ ?_
 ·refine⟨0,λ_=>0,[],_,_,_,_,_,_,_,_,_,_,_,_,_,_,_,_,_,_,_,_,_,_,_,_,_,_,_,_,_,_,_,_,⟨Nat.zero_le _,λq hq=>absurd hq (Nat.not_lt_zero q),?_⟩,rfl⟩
  have e0:∀(w':World) (o:Obj),(w'.alloc o).heap.size=w'.heap.size+1:=λw' o=>World.size_alloc w' o
  refine⟨(((Bx.new w 24 _).alloc _).alloc _).alloc _,?_,?_,?_,?_,trivial⟩
  ·have:=((Bx.new (w.alloc (.cells #[.slice A n c,.int .i64 ((n:Int)-1)] 24)) 28 [.slice none 0 0]).alloc (.cells (mkI n λ_=>0) 3)).alloc (.cells #[.slice (some ⟨w.heap.size+1+1,0,none⟩) n n] 28)
   rw[e0]at this;exact this
  ·have:=World.alloc_heap_new ((w.alloc (.cells #[.slice A n c,.int .i64 ((n:Int)-1)] 24)).alloc (.cells #[.slice none 0 0] 28)) (.cells (mkI n λ_=>0) 3)
   rw[e0,e0]at this
   exact Ib.alloc (show Ib _ _ n (λ_=>0)from this) _
  ·have:=Bx.new (((w.alloc (.cells #[.slice A n c,.int .i64 ((n:Int)-1)] 24)).alloc (.cells #[.slice none 0 0] 28)).alloc (.cells (mkI n λ_=>0) 3)) 28 [.slice (some ⟨w.heap.size+1+1,0,none⟩) n n]
   rw[e0,e0,e0]at this;exact this
  ·exact((((Below.refl _ w).alloc (Nat.le_refl _) _).alloc (by simp) _).alloc (by simp;omega) _).alloc (by simp;omega) _
 ·rintro a1 W ⟨p,b,ds,u5,u6,u7,u8,u9,u32,u33,u34,u35,u36,u37,u38,u39,u40,u41,u42,u43,u44,u45,u46,u47,u48,u49,u50,u51,u52,u53,u54,u55,u56,u57,u58,⟨hp,hS,hM⟩,rfl⟩
  by_cases hlt:p<n
  ·have hlz:(p:Int)<(n:Int):=by omega
   have hpl:p<l.length:=by rw[<- HL.out];exact hlt
   obtain⟨bA,off,rfl,hbl,hc⟩:=(HN.out.below hM.b) (by omega)
   obtain⟨K,ck,c0,c1,c2,c3,c4,hI⟩:=hc p hpl
   have hks:l[p].ks.length<=4000:=HK.out _ (List.getElem_mem _)
   have HKA:=hid (kidsAt_eq hpl)
   clear hc
   generalize l[p]=x at *
   obtain⟨kd,nn,pl,tx,ks⟩:=x
   dsimp only at c0 c1 c2 c3 c4 hI hks HKA
   gi_wp2_with (refine⟨trivial,?_⟩;gi_at_call 107;refine(back_in _ _ _ _).mono ?_;rintro e w' ⟨rfl,rfl⟩)
   obtain⟨W1,hW1⟩:∃W1,(((W.alloc (.cells #[.int .i64 kd,.int .i64 nn,.int .i64 pl,.string tx,.slice K ks.length ck] 50)).alloc (.cells #[.int .i64 (p:Int)] 3)).alloc (.cells #[.slice K ks.length ck] 28))=W1:=⟨_,rfl⟩
   have e0:∀(w':World) (o:Obj),(w'.alloc o).heap.size=w'.heap.size+1:=λw' o=>World.size_alloc w' o
   have hsz:W1.heap.size=W.heap.size+1+1+1:=by rw[<- hW1,e0,e0,e0]
   have hz3:=hM.s.lt
   have hM1:StM (some ⟨bA,off,none⟩) c n w b ds W.heap.size W1:=by
    rw[<- hW1]
    exact((hM.alloc (Nat.le_refl _) _).alloc (by rw[e0];omega) _).alloc (by rw[e0,e0];omega) _
   have hs1:Bx W1 (W.heap.size+1) 3 [.int .i64 (p:Int)]:=by
    rw[<- hW1]
    have:=(Bx.new (W.alloc (.cells #[.int .i64 kd,.int .i64 nn,.int .i64 pl,.string tx,.slice K ks.length ck] 50)) 3 [.int .i64 (p:Int)]).alloc (.cells #[.slice K ks.length ck] 28)
    rw[e0]at this;exact this
   have hs2:Bx W1 (W.heap.size+1+1) 28 [.slice K ks.length ck]:=by
    rw[<- hW1]
    have:=Bx.new ((W.alloc (.cells #[.int .i64 kd,.int .i64 nn,.int .i64 pl,.string tx,.slice K ks.length ck] 50)).alloc (.cells #[.int .i64 (p:Int)] 3)) 28 [.slice K ks.length ck]
    rw[e0,e0]at this;exact this
   have hb1:Below W.heap.size W W1:=by
    rw[<- hW1]
    exact(((Below.refl _ W).alloc (Nat.le_refl _) _).alloc (by simp) _).alloc (by simp;omega) _
   rw[hW1]
   have hI1:=hI.below hb1
   have hA1:∀j,j<ks.length->∃b off,K=some ⟨b,off,none⟩/\b<W.heap.size/\W1.cell? ⟨b,off+j,none⟩=some (.int .i64 (ks[j]?.getD 0)):=λj hj=>by
    obtain⟨b1,off1,e1,hl1,_⟩:=hI (by omega)
    obtain⟨b2,off2,e2,hl2,hc2⟩:=hI1 (by omega)
    obtain⟨rfl,rfl⟩:b1=b2/\off1=off2:=by rw[e1]at e2;simpa using e2
    exact⟨b1,off1,e1,hl1,by rw[hc2 j hj];simp[hj]⟩
   clear hb1 hI hI1 c0 c1 c2 c3 c4 hM hW1
   refine wpIn_rangeFunc_ownG rfl (by omega) (gf:=162) (lb := #[.pointer (some ⟨W.heap.size+1+1,0,none⟩)]) rfl trivial (enters_of Tryz.func162 (by kernel_rfl) rfl)
    (back_stops (W.heap.size+1+1) W.heap.size K ck ks (by omega) W1 (by omega) (by omega) (hs2.cell 0) hA1)
    (λh k=>⟨h.1.trans k.1,k.2.trans h.2⟩)
    (λX q o o' hq ho h1 h2=>⟨⟨rfl,rfl,rfl,by simp[World.putObj],λj hj=>World.putObj_heap_other (by omega)⟩,World.putObj_heap_other (by omega)⟩) (Below.refl _ _) (λ_=>rfl)
    (λpre X=>(∃s:Nat,stK b (pre.map (·.2)) p=some s/\Bx X (W.heap.size+1) 3 [.int .i64 (s:Int)])/\W1.heap.size<=X.heap.size/\StM (some ⟨bA,off,none⟩) c n w b ds W.heap.size X)
    (λcd pre X=>(cd = .ret/\stK b (pre.map (·.2)) p=none)/\W1.heap.size<=X.heap.size/\StM (some ⟨bA,off,none⟩) c n w b ds W.heap.size X)
    (λpre X Y row hs hg hr=>by
     obtain⟨⟨s,h1,h2⟩,h3,h4⟩:=hs
     exact⟨⟨s,h1,h2.grown hg (ne_row h2 hr)⟩,Nat.le_trans h3 hg.size,h4.own hg hr (by omega) (by omega) (by omega)⟩)
    (λcd pre X Y row hs hg hr=>⟨hs.1,Nat.le_trans hs.2.1 hg.size,hs.2.2.own hg hr (by omega) (by omega) (by omega)⟩)
    ⟨⟨p,rfl,hs1⟩,Nat.le_refl _,hM1⟩
    (λx => { tmps := #[.agg #[.slice (some ⟨bA,off,none⟩) n c,.int .i64 ((n:Int)-1)],.pointer (some ⟨w.heap.size,0,none⟩),.pointer (some ⟨w.heap.size+1,0,none⟩),.int .i64 (n:Int),.pointer (some ⟨w.heap.size+1+1+1,0,none⟩),.int .i64 (p:Int),.pointer (some ⟨W.heap.size,0,none⟩),.pointer (some ⟨W.heap.size+1,0,none⟩),u8,.int .i64 x.2,.pointer (some ⟨w.heap.size,0,none⟩),.slice (some ⟨bA,off,none⟩) n c,.int .i64 (n:Int),.int .i64 (n:Int),.bool false,.bool false,.int .i64 (n:Int),.bool false,.bool false,.bool false,.pointer (some ⟨w.heap.size,1,none⟩),.int .i64 ((n:Int)-1),.int .i64 (n:Int),.int .i64 ((n:Int)-1),.bool false,.bool false,.int .i64 (n:Int),.slice (some ⟨w.heap.size+1+1,0,none⟩) n n,.pointer (some ⟨w.heap.size,0,none⟩),.slice (some ⟨bA,off,none⟩) n c,.int .i64 (n:Int),.int .i64 (p:Int),.bool true,.int .i64 (p:Int),.pointer (some ⟨bA,off+p*5,none⟩),.agg #[.int .i64 kd,.int .i64 nn,.int .i64 pl,.string tx,.slice K ks.length ck],.int .i64 (p:Int),.pointer (some ⟨W.heap.size,4,none⟩),.slice K ks.length ck,.func (.func 162) #[] #[.pointer (some ⟨W.heap.size+1+1,0,none⟩)],.int .i64 x.1,.int .i64 x.2,u42,u43,u44,u45,u46,u47,u48,u49,u50,u51,u52,u53,u54,u55,u56,u57,u58,undef,undef,undef,undef,undef,undef,undef],defers:=[] }) ?assign ?body ?done ?stop
   case assign=>
    intro l' x X K' hK
    gi_wp2
    exact hK
   case body=>
    rintro l' pre ⟨x1,x2⟩ X ⟨⟨s,h3,h4⟩,h5,h6⟩ hpre
    have hsp:=stK_le _ _ _ hS.le h3
    have hcs:=h4.cell 0
    have hfs:=h4.frozen 0
    have hcr:=h6.r.cell 0
    have hfr:=h6.r.frozen 0
    have hcb:=h6.s.cell 0
    simp only[List.getElem?_cons_zero]at hcs hcr hcb
    have HSN:=hid (stK_snoc (k:=x2) h3)
    have H6:=hid h6
    have H4:=hid h4
    obtain⟨v,hv⟩:∃v:Int,v=(s:Int):=⟨_,rfl⟩
    rw[<- hv]at hcs
    by_cases e1:s=0
    ·have hv0:v=0:=by omega
     subst hv0
     have HR:=hid (show stK b ((pre++[(x1,x2)]).map (·.2)) p=none by rw[List.map_append];show stK b (pre.map (·.2)++[x2]) p=none;rw[HSN.out,if_pos e1])
     clear h3 h4 h6 hv HSN hsp e1
     gi_wp2
     exact⟨(KeepsOthers.setCell _ _ _).from _,⟨rfl,HR.out⟩,by rw[World.size_setCell];exact h5,H6.out.res⟩
    ·have hq0:(v==0)=false:=by simp;omega
     by_cases e2:x2=v-1
     ·obtain⟨s',rfl⟩:∃s',s=s'+1:=⟨s-1,by omega⟩
      have hx2:x2=(s':Int):=by omega
      have hx3:v=(s':Int)+1:=by omega
      have hq1:((s':Int) != (s':Int))=false:=by simp
      have HR:=hid (show stK b ((pre++[(x1,x2)]).map (·.2)) p=some (b s')by rw[List.map_append];show stK b (pre.map (·.2)++[x2]) p=_;rw[HSN.out,if_neg e1,if_pos (by omega)];rfl)
      have hcg:=H6.out.g.cell (i:=s') (by omega)
      clear h3 h4 h6 hv e2 HSN
      subst hx2 hx3
      have hsn:s'<n:=by omega
      gi_wp2
      refine⟨(KeepsOthers.setCell _ _ _).from _,⟨(Below.refl _ X).setCell (p:=⟨W.heap.size+1,0,none⟩) (by show _<=W.heap.size+1;omega) _,heap_setCell_other X _ _ _ (by show W.heap.size+1+1≠W.heap.size+1;omega)⟩,⟨b s',HR.out,H4.out.set_ 0 _⟩,by rw[World.size_setCell];exact h5,H6.out.far (by omega) (λD hD _=>by omega)⟩
     ·have hq1:(x2 != v-1)=true:=by simp[e2]
      have HR:=hid (show stK b ((pre++[(x1,x2)]).map (·.2)) p=none by rw[List.map_append];show stK b (pre.map (·.2)++[x2]) p=none;rw[HSN.out,if_neg e1,if_neg (by omega)])
      have hvl:v<=4000:=by omega
      have hvg:0<v:=by omega
      clear h3 h4 h6 hv HSN
      gi_wp2
      exact⟨(KeepsOthers.setCell _ _ _).from _,⟨rfl,HR.out⟩,by rw[World.size_setCell];exact h5,H6.out.res⟩
   case done=>
    rintro D ys X hD rfl ⟨⟨s,h3,h4⟩,h5,h6⟩ hK
    rw[upto_back ks (Nat.le_refl _),List.take_of_length_le (by simp)]at h3
    have hcs:=h4.cell 0
    have hcb:=h6.s.cell 0
    have hcg:=h6.g.cell hlt
    have hfg:=h6.g.frozen p
    simp only[List.getElem?_cons_zero]at hcs hcb
    have hS2:=hS.step (s:=s) (by rw[HKA.out];exact h3)
    have H6:=hid h6
    have HK2:=hid hK
    have HS2:=hid hS2
    clear h3 h4 h6 hS2 hS hK
    gi_wp2
    have h7:=H6.out.put p s
    refine⟨⟨p+1,λj=>if j=p then s else b j,_,_,_,_,_,_,_,_,_,_,_,_,_,_,_,_,_,_,_,_,_,_,_,_,_,_,_,_,_,_,_,_,_,⟨by omega,HS2.out,?_⟩,rfl⟩,by simp[intOf];omega⟩
    refine⟨h7.t,h7.r,h7.g,h7.s,h7.b,D,rfl,by omega,?_,?_,h7.m.mono (by omega)⟩
    ·rw[World.size_setCell];exact(Array.getElem?_eq_some_iff.1 HK2.out).1
    ·refine(heap_setCell_other X _ D _ ?_).trans HK2.out
     show D≠w.heap.size+1+1
     omega
   case stop=>
    rintro D cd pre X hD ⟨k,hk,rfl⟩ ⟨⟨rfl,h3⟩,h5,h6⟩ hK
    have hno:∀b',¬Sd l ((n:Int)-1) b':=λb' h=>by
     refine hS.fail ?_ b' (n:=n) hlt (by rw[HL.out];exact h.2.2.2.1)
     rw[HKA.out]
     rw[upto_back ks hk]at h3
     rw[<- List.take_append_drop k ks.reverse,stK_app,h3];rfl
    have HNO:=hid hno
    clear hno h3
    gi_wp2
    have hmk:Marks w.heap.size X ({ target :=.collected D,args := #[] } :: ds) (D+1):=⟨D,rfl,by omega,by omega,hK,h6.m.mono (by omega)⟩
    refine leave_marks _ _ _ hmk λw' hb hc =>?_
    have hc5:=(show Bx w' _ 28 _ from hc _ _ h6.r rfl).cell 0
    refine⟨.slice none 0 0,?_,h6.b.trans hb,.inr ⟨HNO.out,rfl⟩⟩
    simp[results,Tryz.f72,go_sem,hc5]
  ·obtain rfl:p=n:=by omega
   have hlz:¬(p:Int)<(p:Int):=by omega
   obtain⟨n',rfl⟩:∃n',p=n'+1:=⟨p-1,by omega⟩
   have hct0:=hM.t.cell 0
   have hct:=hM.t.cell 1
   have hcr:=hM.r.cell 0
   have hfr:=hM.r.frozen 0
   have hcb:=hM.s.cell 0
   have hcg:=hM.g.cell (i:=n') (by omega)
   simp only[List.getElem?_cons_zero,List.getElem?_cons_succ]at hct hct0 hcr hcb
   rw[show((n'+1:Nat):Int)-1=(n':Int)by omega]at *
   have HM:=hid hM
   have HS:=hid hS
   clear hM hS hlt hp
   by_cases hb0:b n'=0
   ·have hq0:((b n':Int) != 0)=false:=by simp[hb0]
    have HSd:=hid (show Sd l (n':Int) b from⟨by rw[<- HL.out];omega,by rw[<- HL.out];omega,by rw[<- HL.out];omega,by rw[<- HL.out];exact HS.out,by rw[<- HL.out];exact hb0⟩)
    clear hb0
    gi_wp2
    have hm2:=HM.out.m.keep (w':=W.setCell ⟨w.heap.size+1,0,none⟩ (.slice (some ⟨w.heap.size+1+1,0,none⟩) (n'+1) (n'+1))) λD hD hd=>(heap_setCell_other W _ D _ (λe=>by have e':D=w.heap.size+1:=e;subst e';have:=HM.out.r;unfold Bx at this;rw[this]at hd;cases hd)).trans hd
    refine leave_marks _ _ _ hm2 λw' hb hc =>?_
    have hc5:=(show Bx w' _ 28 _ from hc _ _ (HM.out.r.set_ 0 (.slice (some ⟨w.heap.size+1+1,0,none⟩) (n'+1) (n'+1))) rfl).cell 0
    have hg5:Ib w' _ _ _:=hc _ _ (HM.out.g.far (p:=⟨w.heap.size+1,0,none⟩) (by show w.heap.size+1+1≠w.heap.size+1;omega) _) rfl
    have hb5:=(HM.out.b.setCell (p:=⟨w.heap.size+1,0,none⟩) (by show _<=w.heap.size+1;omega) (.slice (some ⟨w.heap.size+1+1,0,none⟩) (n'+1) (n'+1))).trans hb
    refine⟨.slice (some ⟨w.heap.size+1+1,0,none⟩) (n'+1) (n'+1),?_,hb5,.inl ⟨b,w.heap.size+1+1,HSd.out,by rw[<- HL.out],by rw[<- HL.out];exact hg5,by omega⟩⟩
    simp[results,Tryz.f72,go_sem,hc5]
   ·have hq0:((b n':Int) != 0)=true:=by simp;omega
    have HNO:=hid (show∀b',¬Sd l (n':Int) b' from λb' h=>by
     have h1:=h.2.2.2.1
     have h2:=h.2.2.2.2
     rw[<- HL.out]at h1 h2
     have:=HS.out.uniq h1 n' (by omega)
     rw[show n'+1-1=n' by omega]at h2
     omega)
    clear hb0
    gi_wp2
    have h6:=HM.out.res
    refine leave_marks _ _ _ h6.m λw' hb hc =>?_
    have hc5:=(show Bx w' _ 28 _ from hc _ _ h6.r rfl).cell 0
    refine⟨.slice none 0 0,?_,h6.b.trans hb,.inr ⟨HNO.out,rfl⟩⟩
    simp[results,Tryz.f72,go_sem,hc5]
set_option maxRecDepth 100000 in
set_option maxHeartbeats 1500000 in
theorem starts_no (A:Option Addr)(c n:Nat)(l:List Nd)(r:Int)(w:World)(hn:n=l.length)(h:¬(1<=n/\n<=4000/\r=(n:Int)-1)):Calls Tryz.prog 72 #[.agg #[.slice A n c,.int .i64 r]] w (StPost l r w):=by
 have HNO:=hid (show∀b,¬Sd l r b from λb k=>h ⟨by rw[hn];exact k.1,by rw[hn];exact k.2.1,by rw[hn];exact k.2.2.1⟩)
 have fin:∀w',Below w.heap.size w w'->StPost l r w (.returned (.slice none 0 0)) w':=λw' hb=>⟨hb,.inr ⟨HNO.out,rfl⟩⟩
 have hb2:∀(o1 o2:Obj),Below w.heap.size w ((w.alloc o1).alloc o2):=λo1 o2=>((Below.refl _ w).alloc (Nat.le_refl _) _).alloc (by simp) _
 have HF:=hid fin
 have HB:=hid hb2
 clear fin hb2
 by_cases h1:n=0
 ·have q1:((n:Int)==0)=true:=by simp[h1]
  clear h h1 hn HNO
  go_enter Tryz.func72,Tryz.ntmps72
  go_wp2
  refine bodyPost_ret (v :=.slice none 0 0) (by simp[results,Tryz.f72,go_sem]) rfl (HF.out _ (HB.out _ _))
 ·have q1:((n:Int)==0)=false:=by simp;omega
  by_cases h2:(4000:Int)<(n:Int)
  ·clear h h1 hn HNO
   go_enter Tryz.func72,Tryz.ntmps72
   go_wp2
   refine bodyPost_ret (v :=.slice none 0 0) (by simp[results,Tryz.f72,go_sem]) rfl (HF.out _ (HB.out _ _))
  ·have q3:(r != (n:Int)-1)=true:=by
    rw[bne_iff_ne];intro e;exact h ⟨by omega,by omega,e⟩
   have hn1:1<=n:=by omega
   clear h h1 hn HNO
   go_enter Tryz.func72,Tryz.ntmps72
   go_wp2
   refine bodyPost_ret (v :=.slice none 0 0) (by simp[results,Tryz.f72,go_sem]) rfl (HF.out _ (HB.out _ _))
theorem starts_any (A:Option Addr)(c n:Nat)(l:List Nd)(r:Int)(w:World)(hN:Nds w A l)(hn:n=l.length)(hk:∀x ∈ l,x.ks.length<=4000):Calls Tryz.prog 72 #[.agg #[.slice A n c,.int .i64 r]] w (StPost l r w):=by
 by_cases h:1<=n/\n<=4000/\r=(n:Int)-1
 ·subst hn
  exact callsIn_wide.1 (starts_go A c l r w hN h.1 h.2.1 h.2.2 hk)
 ·exact starts_no A c n l r w hn h
end Go.Proofs.YtedkgofehbecmaaGreatDoor.Tr
namespace Go.Proofs.YtedkgofehbecmaaGreatDoor.Tr
open Go.Lib (hid)
open Go Go.RowKit
def Snd (l:List Nd)(r:Int):Prop:=∃b,Sd l r b
open Classical in
noncomputable def sndB (l:List Nd)(r:Int):Bool:=decide (Snd l r)
open Classical in
theorem sndB_true {l:List Nd}{r:Int}(h:Snd l r):sndB l r=true:=decide_eq_true h
open Classical in
theorem sndB_false {l:List Nd}{r:Int}(h:¬Snd l r):sndB l r=false:=decide_eq_false h
def dpL (l:List Nd):Nat->Nat->Nat
 |0=>λ_=>0
 |n+1=>λj=>if j=n then dpK (dpL l n) (kidsAt l n) else dpL l n j
theorem dpL_lt (l:List Nd):∀(n m j:Nat),j<n->n<=m->dpL l m j=dpL l n j:=by
 intro n m j hj hm
 induction m with
 |zero=>omega
 |succ m ih=>
  by_cases e:n=m+1
  ·rw[e]
  ·show(if j=m then dpK (dpL l m) (kidsAt l m) else dpL l m j)=_
   rw[if_neg (by omega)]
   exact ih (by omega)
theorem dpL_U {l:List Nd}{b:Nat->Nat}{n:Nat}(hs:StU l b n):DpU l (dpL l n) n:=λp hp=>by
 rw[dpL_lt l (p+1) n p (by omega) (by omega)]
 show(if p=p then dpK (dpL l p) (kidsAt l p) else dpL l p p)=_
 rw[if_pos rfl]
 refine dpK_congr λk hk =>?_
 obtain⟨m,rfl,hm,_⟩:=hs.kid hp hk
 rw[Int.toNat_natCast]
 exact(dpL_lt l p n m hm (by omega)).symm
theorem foldl_max_le {f:Int->Nat}{m:Nat}:∀(ks:List Int) (a:Nat),a<=m->(∀k ∈ ks,f k<=m)->ks.foldl (λa k=>max a (f k)) a<=m
 | [],_,h,_=>h
 |k :: ks,a,h,hk=>by
  rw[List.foldl_cons]
  exact foldl_max_le ks _ (Nat.max_le.2 ⟨h,hk k (by simp)⟩) (λx hx=>hk x (by simp[hx]))
theorem DpU.le {l:List Nd}{b d:Nat->Nat}{n:Nat}(hs:StU l b n)(h:DpU l d n):∀p,p<n->d p<=p+1:=by
 intro p
 induction p using Nat.strongRecOn with
 |_ p ih=>
  intro hp
  rw[h p hp]
  unfold dpK
  refine Nat.succ_le_succ (foldl_max_le (f:=λk=>d k.toNat) _ 0 (Nat.zero_le _) λk hk =>?_)
  obtain⟨m,rfl,hm,_⟩:=hs.kid hp hk
  have:=ih m hm (by omega)
  simp only[Int.toNat_natCast]
  omega
open Classical in
noncomputable def dpt (l:List Nd)(r:Int):Nat:=if Snd l r then dpL l l.length (l.length-1) else 0
open Classical in
theorem dpt_yes {l:List Nd}{r:Int}(h:Snd l r):dpt l r=dpL l l.length (l.length-1):=if_pos h
open Classical in
theorem dpt_no {l:List Nd}{r:Int}(h:¬Snd l r):dpt l r=0:=if_neg h
def BPost (b:Bool)(w:World)(e:Ending)(w':World):Prop:=e = .returned (.bool b)/\Below w.heap.size w w'
def IPost (i:Int)(w:World)(e:Ending)(w':World):Prop:=e = .returned (.int .i64 i)/\Below w.heap.size w w'
theorem nil22 (w:World):(binOp .neq 28 (.slice none 0 0) (.slice none 0 0)).run Tryz.prog w = .ok (.bool false) w:=by kernel_rfl
theorem nil22' (a:Addr)(n c:Nat)(w:World):(binOp .neq 28 (.slice (some a) n c) (.slice none 0 0)).run Tryz.prog w = .ok (.bool true) w:=by kernel_rfl
set_option maxRecDepth 100000 in
set_option maxHeartbeats 1500000 in
theorem sound_any (A:Option Addr)(c n:Nat)(l:List Nd)(r:Int)(w:World)(hN:Nds w A l)(hn:n=l.length)(hk:∀x ∈ l,x.ks.length<=4000):Calls Tryz.prog 71 #[.agg #[.slice A n c,.int .i64 r]] w (BPost (sndB l r) w):=by
 have hb:Below w.heap.size w (w.alloc (.cells #[.slice A n c,.int .i64 r] 24)):=heap1 _ _
 have h0:=starts_any A c n l r _ (hN.below hb) hn hk
 clear hN hk
 by_cases h:Snd l r
 ·rw[sndB_true h]
  have HS:=hid (show Calls Tryz.prog 72 #[.agg #[.slice A n c,.int .i64 r]] (w.alloc (.cells #[.slice A n c,.int .i64 r] 24)) (λe w'=>(∃g,e = .returned (.slice (some ⟨g,0,none⟩) n n))/\Below (w.alloc (.cells #[.slice A n c,.int .i64 r] 24)).heap.size (w.alloc (.cells #[.slice A n c,.int .i64 r] 24)) w')from h0.mono (by
   rintro e w1 ⟨hb1,⟨b,g,hS,rfl,hI,hg⟩ |⟨hno,rfl⟩⟩
   ·exact⟨⟨g,by rw[hn]⟩,hb1⟩
   ·obtain⟨b,h⟩:=h;exact(hno b h).elim))
  clear h0 h hn
  go_enter Tryz.func71,Tryz.ntmps71
  go_wp2_with (go_at_call 72;refine HS.out.mono ?_)
  rintro e w1 ⟨⟨g,rfl⟩,hb1⟩
  have hnil:=nil22' ⟨g,0,none⟩ n n
  go_wp2
  go_ret
  exact⟨rfl,bt hb hb1⟩
 ·rw[sndB_false h]
  have HS:=hid (show Calls Tryz.prog 72 #[.agg #[.slice A n c,.int .i64 r]] (w.alloc (.cells #[.slice A n c,.int .i64 r] 24)) (λe w'=>e = .returned (.slice none 0 0)/\Below (w.alloc (.cells #[.slice A n c,.int .i64 r] 24)).heap.size (w.alloc (.cells #[.slice A n c,.int .i64 r] 24)) w')from h0.mono (by
   rintro e w1 ⟨hb1,⟨b,g,hS,rfl,hI,hg⟩ |⟨hno,rfl⟩⟩
   ·exact(h ⟨b,hS⟩).elim
   ·exact⟨rfl,hb1⟩))
  clear h0 h hn
  go_enter Tryz.func71,Tryz.ntmps71
  go_wp2_with (go_at_call 72;refine HS.out.mono ?_)
  rintro e w1 ⟨rfl,hb1⟩
  have hnil:=nil22
  go_wp2
  go_ret
  exact⟨rfl,bt hb hb1⟩
set_option maxRecDepth 100000 in
set_option maxHeartbeats 1500000 in
theorem depth_no (A:Option Addr)(c n:Nat)(l:List Nd)(r:Int)(w:World)(hN:Nds w A l)(hn:n=l.length)(hk:∀x ∈ l,x.ks.length<=4000)(h:¬Snd l r):Calls Tryz.prog 34 #[.agg #[.slice A n c,.int .i64 r]] w (IPost 0 w):=by
 have hb:Below w.heap.size w (w.alloc (.cells #[.slice A n c,.int .i64 r] 24)):=heap1 _ _
 have HS:=hid (sound_any A c n l r _ (hN.below hb) hn hk)
 rw[sndB_false h]at HS
 clear hN hk h hn
 go_enter Tryz.func34,Tryz.ntmps34
 go_wp2_with (go_at_call 71;refine HS.out.mono ?_;rintro e w1 ⟨rfl,hb1⟩)
 go_ret
 exact⟨rfl,bt hb hb1⟩
set_option maxRecDepth 100000 in
set_option maxHeartbeats 1500000 in
theorem depth_yes (A:Option Addr)(c n:Nat)(l:List Nd)(r:Int)(w:World)(hN:Nds w A l)(hn:n=l.length)(hk:∀x ∈ l,x.ks.length<=4000)(h:Snd l r):Calls Tryz.prog 34 #[.agg #[.slice A n c,.int .i64 r]] w (IPost (dpL l n (n-1):Int) w):=by
 have hb:Below w.heap.size w (w.alloc (.cells #[.slice A n c,.int .i64 r] 24)):=heap1 _ _
 have HS:=hid (sound_any A c n l r _ (hN.below hb) hn hk)
 rw[sndB_true h]at HS
 have HN:=hid hN
 have HL:=hid hn
 have HK:=hid hk
 obtain⟨b,hS⟩:=h
 obtain⟨h1,h2,h3,h4,h5⟩:=hS
 rw[<- hn]at h1 h2 h3 h4
 obtain⟨n',hn'⟩:∃n',n'=n-1:=⟨_,rfl⟩
 have hr:r=(n':Int):=by omega
 have hnn:n'<n:=by omega
 have HNN:=hid (show n=n'+1 by omega)
 rw[<- hn']
 clear hn'
 subst hr
 have HU:=hid h4
 clear hN hk hn h4 h3 h5
 go_enter Tryz.func34,Tryz.ntmps34
 go_wp2_with (go_at_call 71;refine HS.out.mono ?_)
 rintro e w1 ⟨rfl,hb1⟩
 clear HS
 have e0:∀(w':World) (o:Obj),(w'.alloc o).heap.size=w'.heap.size+1:=λw' o=>World.size_alloc w' o
 have hbb:=bt hb hb1
 have hz:w.heap.size<w1.heap.size:=by have:=hb1.size;rw[e0]at this;omega
 have hB:Bx w1 w.heap.size 24 [.slice A n c,.int .i64 (n':Int)]:=(Bx.new w 24 _).below hb1 (by rw[e0];omega)
 clear hb hb1
 have hct0:=hB.cell 0
 have hct1:=hB.cell 1
 simp only[List.getElem?_cons_zero,List.getElem?_cons_succ]at hct0 hct1
 have hmk:=λw'=>make22 n (by omega) w'
 go_wp2
 clear hmk hct0 hct1
 go_loopw [19] (λi wr=>∃p:Nat,p<=n/\i = .int .i64 (p:Int)/\Bx wr w.heap.size 24 [.slice A n c,.int .i64 (n':Int)]/\Ib wr w1.heap.size n (λj=>(dpL l p j:Int))/\Below w.heap.size w wr) (λi _=>n-(intOf i).toNat)
 case atStart=>exact⟨0,Nat.zero_le _,rfl,hB.alloc _,World.alloc_heap_new _ _,hbb.alloc hbb.size _⟩
 case round=>
  clear hbb hB
  obtain⟨p,hp,rfl,hB,hG,hbw⟩:=hrel
  have hct0:=hB.cell 0
  have hct1:=hB.cell 1
  simp only[List.getElem?_cons_zero,List.getElem?_cons_succ]at hct0 hct1
  by_cases hlt:p<n
  ·have hlz:(p:Int)<(n:Int):=by omega
   have hpl:p<l.length:=by rw[<- HL.out];exact hlt
   obtain⟨bA,off,rfl,hbl,hc⟩:=(HN.out.below hbw) (by omega)
   obtain⟨K,ck,c0,c1,c2,c3,c4,hI⟩:=hc p hpl
   have hks:l[p].ks.length<=4000:=HK.out _ (List.getElem_mem _)
   have hkid:∀j (hj:j<l[p].ks.length),∃m:Nat,l[p].ks[j]=m/\m<p:=λj hj=>by
    obtain⟨m,e,hm,_⟩:=HU.out.kid hlt (k:=l[p].ks[j]) (by rw[kidsAt_eq hpl];exact List.getElem_mem _)
    exact⟨m,e,hm⟩
   have HKID:=hid hkid
   have HKA:=hid (kidsAt_eq hpl)
   clear hc hkid
   generalize l[p]=x at *
   obtain⟨kd,nn,pl,tx,ks⟩:=x
   dsimp only at c0 c1 c2 c3 c4 hI hks HKA HKID
   obtain⟨f,hf⟩:∃f:Nat->Nat,f=λj=>(ks.take j).foldl (λa k=>max a (dpL l p k.toNat)) 0:=⟨_,rfl⟩
   have HF:=hid hf
   have hf0:f 0=0:=by rw[hf];rfl
   clear hf
   go_wp2
   go_loop [6,27] (λu i=>∃j:Nat,j<=ks.length/\i = .int .i64 (j:Int)/\u = .int .i64 (f j:Int)) (λ_ i=>ks.length-(intOf i).toNat)
   case atStart=>exact⟨0,Nat.zero_le _,rfl,by rw[hf0];rfl⟩
   case round=>
    obtain⟨j,hj,rfl,rfl⟩:=hrel
    by_cases hjl:j<ks.length
    ·have hjz:(j:Int)<(ks.length:Int):=by omega
     obtain⟨bK,oK,rfl,hbK,hcK⟩:=hI (by omega)
     obtain⟨m,hm,hmp⟩:=HKID.out j hjl
     have hck:=hcK j hjl
     rw[hm]at hck
     have hck2:=((heap1 wr (.cells #[.int .i64 kd,.int .i64 nn,.int .i64 pl,.string tx,.slice (some ⟨bK,oK,none⟩) ks.length ck] 50)).cell (p:=⟨bK,oK+j,none⟩) hbK).trans hck
     have hcg:=(hG.alloc (.cells #[.int .i64 kd,.int .i64 nn,.int .i64 pl,.string tx,.slice (some ⟨bK,oK,none⟩) ks.length ck] 50)).cell (i:=m) (by omega)
     have hfs:f (j+1)=max (f j) (dpL l p m):=by
      rw[HF.out]
      show(ks.take (j+1)).foldl _ 0=_
      rw[List.take_succ_eq_append_getElem hjl,List.foldl_append,hm];rfl
     have hfz:max (f j:Int) (dpL l p m:Int)=(f (j+1):Int):=by omega
     have hmn:m<n:=by omega
     clear hcK hck hm
     go_wp2
     go_round
     case rel=>exact⟨j+1,by omega,by go_num,congrArg (Value.int .i64) (by split<;>omega)⟩
     case measure=>simp[intOf];omega
    ·obtain rfl:j=ks.length:=by omega
     have hjz:¬(ks.length:Int)<(ks.length:Int):=by omega
     have hfe:f ks.length+1=dpL l (p+1) p:=by
      show _=(if p=p then dpK (dpL l p) (kidsAt l p) else dpL l p p)
      rw[if_pos rfl,HKA.out,HF.out]
      show(ks.take ks.length).foldl _ 0+1=_
      rw[List.take_length];rfl
     have hfb:f ks.length<=4000:=by
      have h6:=(dpL_U (λq hq=>HU.out q (by omega):StU l b (p+1))).le (λq hq=>HU.out q (by omega)) p (by omega)
      omega
     have HFE:=hid hfe
     have hG2:=hG.alloc (.cells #[.int .i64 kd,.int .i64 nn,.int .i64 pl,.string tx,.slice K ks.length ck] 50)
     have hcg:=hG2.cell hlt
     have hfg:=hG2.frozen p
     clear hfe
     go_wp2
     go_roundw
     case rel=>
      refine⟨p+1,by omega,by go_num,?_,?_,?_⟩
      ·exact(hB.alloc _).far (by show w.heap.size≠w1.heap.size;omega) _
      ·refine(hG2.set_ p _).congr λi hi =>?_
       show _=((if i=p then dpK (dpL l p) (kidsAt l p) else dpL l p i:Nat):Int)
       by_cases e:i=p
       ·have h7:=HFE.out
        have h8:dpL l (p+1) p=dpK (dpL l p) (kidsAt l p):=if_pos rfl
        rw[if_pos e,if_pos e];omega
       ·rw[if_neg e,if_neg e]
      ·exact(hbw.alloc hbw.size _).setCell (p:=⟨w1.heap.size,p,none⟩) (by show _<=w1.heap.size;omega) _
     case measure=>simp[intOf];omega
  ·obtain rfl:p=n:=by omega
   have hlz:¬(p:Int)<(p:Int):=by omega
   have hcg:=hG.cell (i:=n') (by omega)
   go_wp2
   go_ret
   exact⟨rfl,hbw⟩
theorem depth_any (A:Option Addr)(c n:Nat)(l:List Nd)(r:Int)(w:World)(hN:Nds w A l)(hn:n=l.length)(hk:∀x ∈ l,x.ks.length<=4000):Calls Tryz.prog 34 #[.agg #[.slice A n c,.int .i64 r]] w (IPost (dpt l r:Int) w):=by
 by_cases h:Snd l r
 ·rw[dpt_yes h,<- hn];exact depth_yes A c n l r w hN hn hk h
 ·rw[dpt_no h];exact depth_no A c n l r w hN hn hk h
end Go.Proofs.YtedkgofehbecmaaGreatDoor.Tr
