/- PROVED here: parts N38 of the claim. No condition but those in each theorem's own head. -/
import Derived.Test.YtedkgofehbecmaaGreatDoorU35
import Derived.Test.YtedkgofehbecmaaGreatDoorU27
namespace Go.Proofs.YtedkgofehbecmaaGreatDoor.Tr
open Go.Lib (hid)
open Go Go.RowKit Go.Shelf
attribute [local go_sem] Oper.semAt_some
set_option maxRecDepth 100000 in
set_option maxHeartbeats 1500000 in
theorem back1k_in (l Bs n₀:Nat)(A:Option Addr)(cap n:Nat)(nv:Nat->Int)(J Jx:List (Fin n)->World->Prop)
  (hY:∀(pre:List (Fin n)) (x:Fin n) W,J pre W->pre.length<n->YieldAt Fence.wide 1 Tryz.prog l #[.int .i64 ((x:Nat):Int),(.int .i64 (nv x))] W λe W'=>
   (e = .returned (.bool true)/\J (pre++[x]) W'/\KpB n₀ Bs W W')\/(e = .returned (.bool false)/\Jx (pre++[x]) W')) (hn4:n<=4000000)
  (W:World) (hBs:W.cell? ⟨Bs,0,none⟩=some (.slice A n cap)) (hA:∀j,j<n->∃b off,A=some ⟨b,off,none⟩/\b<n₀/\W.cell? ⟨b,off+j,none⟩=some (.int .i64 (nv j))) (h0:J [] W) :
  CallsIn Fence.wide 2 Tryz.prog 162 #[.func (.yield l) #[] #[],.pointer (some ⟨Bs,0,none⟩)] W λe W'=>(∃v,e = .returned v) /\
   ((∃ys,ys=seqF n 0/\J ys W')\/(∃pre,(∃k,k<=n/\pre=seqF n k)/\Jx pre W')):=by
 refine callsIn_of_wp Tryz.func162 rfl trivial ?_ rfl
 simp only[Tryz.ntmps162,List.size_toArray,List.length_cons,List.length_nil,Nat.reduceAdd,Nat.reduceSub,Array.replicate_succ,Array.replicate_zero,List.push_toArray,List.append_toArray,List.nil_append,List.cons_append]
 gi_wp2
 gi_loopw [3] (λi wr=>∃m:Nat,m<=n/\i = .int .i64 ((m:Int)-1)/\J (seqF n m) wr/\Below n₀ W wr/\wr.cell? ⟨Bs,0,none⟩=W.cell? ⟨Bs,0,none⟩)
  (λi _=>(intOf i+1).toNat)
 case atStart=>exact⟨n,Nat.le_refl _,by go_num,by rw[seqF_end];exact h0,Below.refl _ _,rfl⟩
 case round=>
  obtain⟨m,hm,rfl,hJs,hnx,hcB⟩:=hrel
  rw[hBs]at hcB
  cases m with
  |zero=>
   gi_wp2
   go_end0
   exact⟨⟨_,rfl⟩,.inl ⟨_,rfl,hJs⟩⟩
  |succ m=>
   rw[show(((m+1:Nat):Int)-1)=(m:Int)by omega]
   obtain⟨b,off,rfl,hb,hc⟩:=hA m (by omega)
   have hcx:wr.cell? ⟨b,off+m,none⟩=some (.int .i64 (nv m)):=(hnx.cell (p:=⟨b,off+m,none⟩) hb).trans hc
   have HU:=hid (seqF_step (n:=n) (m:=m) (by omega))
   obtain⟨fn,tmps,assign,body,hy,hR⟩:=hY _ ⟨m,by omega⟩ wr hJs (by rw[seqF_len];omega)
   dsimp only at hy
   generalize nv m=z at *
   have hm0:(0:Int)<=(m:Int):=by omega
   gi_wp2
   refine hR.mono ?_
   rintro e W3 (⟨rfl,hJ3,hk3⟩ |⟨rfl,hJx3⟩)
   ·have hcB3:W3.cell? ⟨Bs,0,none⟩=some (.slice (some ⟨b,off,none⟩) n cap):=(cell_same hk3.2 0).trans hcB
    gi_wp2
    go_roundw
    case rel=>exact⟨m,by omega,by go_num,by rw[HU.out];exact hJ3,hnx.trans hk3.1,hcB3.trans hBs.symm⟩
    case measure=>simp[intOf]
   ·gi_wp2
    refine bodyPost_ret (results_none rfl _ _ _) rfl ?_
    exact⟨⟨_,rfl⟩,.inr ⟨_,⟨m,by omega,HU.out.symm⟩,hJx3⟩⟩
theorem backk_stops (Bs n₀:Nat)(A:Option Addr)(cap n:Nat)(nv:Nat->Int)(hn4:n<=4000000)(w:World)(hBs:Bs<w.heap.size)(hn₀:n₀<=w.heap.size)
  (hc:w.cell? ⟨Bs,0,none⟩=some (.slice A n cap)) (hA:∀j,j<n->∃b off,A=some ⟨b,off,none⟩/\b<n₀/\w.cell? ⟨b,off+j,none⟩=some (.int .i64 (nv j))) :
  SeqStopsK Fence.wide 2 Tryz.prog 162 #[.pointer (some ⟨Bs,0,none⟩)] (λx:Fin n => #[Value.int .i64 ((x:Nat):Int),(.int .i64 (nv x))]) (KpB n₀ Bs) (λys=>ys=seqF n 0)
   (λpre=>∃k,k<=n/\pre=seqF n k) n w:=λl J Jx W hW _ _ hY h0=>by
 have hc':=(hW.cell (p:=⟨Bs,0,none⟩) hBs).trans hc
 refine back1k_in l Bs n₀ A cap n nv J Jx hY hn4 W hc' (λj hj =>?_) h0
 obtain⟨b,off,e,hb,h⟩:=hA j hj
 exact⟨b,off,e,hb,(hW.cell (p:=⟨b,off+j,none⟩) (show b<w.heap.size by omega)).trans h⟩
theorem seqF_map (ks:List Int){n:Nat}(hn:n=ks.length):(seqF n 0).map (λx:Fin n=>ks[(x:Nat)]?.getD 0)=ks.reverse:=by
 subst hn
 unfold seqF
 rw[List.drop_zero,List.map_reverse]
 congr 1
 apply List.ext_getElem
 ·simp
 ·intro i h1 h2
  simp
end Go.Proofs.YtedkgofehbecmaaGreatDoor.Tr
namespace Go.Proofs.YtedkgofehbecmaaGreatDoor
open Go.Lib (hid)
open Go Go.RowKit Go.Shelf
open Tr (Bx heap1 bt Nds Ints BPost IPost rgB Ib CellsKept seqF KpB)
attribute [local go_sem] Oper.semAt_some
theorem GR.kept {w w':World}{gb M:Nat}{X:Nat->Prop}{G:List Gn}(h:GR w gb M X G)(hk:CellsKept w w'):GR w' gb M X G:=by
 obtain⟨cs,h1,h2,h3⟩:=h
 refine⟨cs,hk _ _ h1 rfl,h2,λj hj =>?_⟩
 obtain⟨a,b,c,d,K,e,f,g⟩:=h3 j hj
 exact⟨a,b,c,d,K,e,f,λh0=>by obtain⟨b,cs,e,hb,hc⟩:=g h0;exact⟨b,cs,e,hk _ _ hb rfl,hc⟩⟩
theorem kept_own {B:Nat}{X Y:World}{row:Option Nat}(hg:X.grownBy Y row)(hr:∀r,row=some r->B<=r/\∃o:Obj,X.heap[r]?=some o/\o.isCells=false):CellsKept X Y:=λk o hk hc=>
 (hg.block k (Array.getElem?_eq_some_iff.1 hk).1 (λe=>by obtain⟨_,o',ho',hc'⟩:=hr k e.symm;rw[hk]at ho';cases ho';rw[hc]at hc';cases hc')).trans hk
theorem keeps_fr {gb M:Nat}{X:Nat->Prop}{G:List Gn}{W W':World}(h:Fr (λb=>b=gb) W W')(hg:GR W gb M X G):KeepsOthers W W':=
 ⟨h.size,λk o hk hc=>(h.block k (Array.getElem?_eq_some_iff.1 hk).1 (λe=>by
  have e:k=gb:=e
  subst e
  obtain⟨cs,hb,_⟩:=hg
  rw[show W.heap[k]?=_ from hb]at hk
  cases hk;cases hc)).trans hk⟩
theorem GR.setb {w:World}{gb M b t:Nat}{X:Nat->Prop}{G:List Gn}{cs:List Value}(h:GR w gb M X G)(hb:Bx w b t cs)(ht:t≠3)(hne:gb≠b)(i:Nat)(u:Value):GR (w.setCell ⟨b,i,none⟩ u) gb M X G:=by
 obtain⟨cg,h1,h2,h3⟩:=h
 refine⟨cg,h1.far (p:=⟨b,i,none⟩) hne u,h2,λj hj =>?_⟩
 obtain⟨a1,a2,a3,a4,K,e,f,g⟩:=h3 j hj
 exact⟨a1,a2,a3,a4,K,e,f,g.fr (E:=λk=>k=b) (Fr.set (E:=λk=>k=b) (Fr.refl _ _) rfl _) (λk ck hk e=>by
  have e:k=b:=e
  subst e
  have:=hk.symm.trans hb
  simp at this
  exact ht this.2.symm)⟩
structure BkI (w W1:World) (g gb M:Nat) (X:Nat->Prop) (ha ex:Int) (r:List Gn × Int) (Y:World):Prop where
 t:Bx Y w.heap.size 157 [.pointer (some ⟨g,0,none⟩)]
 c:Bx Y (w.heap.size+1) 160 [.int .i64 r.2,.int .i64 ha,.int .i64 ex]
 g:GR Y gb M X r.1
 f:Fr (λb=>b=gb) w Y
 z:W1.heap.size<=Y.heap.size
theorem BkI.own {w W1:World}{g gb M:Nat}{X:Nat->Prop}{ha ex:Int}{r:List Gn × Int}{Y Z:World}{row:Option Nat}(h:BkI w W1 g gb M X ha ex r Y)(hg:Y.grownBy Z row)(hr:∀r,row=some r->W1.heap.size<=r/\∃o:Obj,Y.heap[r]?=some o/\o.isCells=false)(hw:w.heap.size<=W1.heap.size):BkI w W1 g gb M X ha ex r Z:=
 ⟨kept_own hg hr _ _ h.t rfl,kept_own hg hr _ _ h.c rfl,h.g.kept (kept_own hg hr),⟨hg.os.trans h.f.os,hg.tape.trans h.f.tape,hg.output.trans h.f.output,Nat.le_trans h.f.size hg.size,λk hk hE=>(hg.block k (Nat.lt_of_lt_of_le hk h.f.size) (λe=>by have:=(hr k e.symm).1;omega)).trans (h.f.block k hk hE)⟩,Nat.le_trans h.z hg.size⟩
def StC (w0:World)(A:Option Addr)(n c:Nat)(l:List Tr.Nd)(g rb sb gb cap cR cS N:Nat)(U:Value)(R:Nat->Bool)(sp:Nat->Int)(X:Nat->Prop)(f:Nat):Prop:=
 ∀(p:Nat) (w:World) (G:List Gn) (fo ha ex:Int),Sce w0 A n c l g rb sb gb cap cR cS N U R sp w->(∀b,X b->b<w.heap.size)->GR w gb (cap*5) X G->G.length=N->p<f->p<l.length->stmB (Tr.nth l p).kd=true->Calls Tryz.prog 189 #[.pointer (some ⟨g,0,none⟩),.int .i64 (p:Int),.agg #[.int .i64 fo,.int .i64 ha,.int .i64 ex]] w (StP gb (cap*5) X (stG l R sp f G p fo ha ex) w)
section
variable {w0 w w':World} {A:Option Addr} {n c:Nat} {l:List Tr.Nd} {g rb sb gb cap cR cS N:Nat} {U:Value} {R:Nat->Bool} {sp:Nat->Int} {X:Nat->Prop}
set_option maxRecDepth 100000 in
set_option maxHeartbeats 4000000 in
theorem block_any (hT:TT w0 A n l)(hF:FlOk l sp N)(f:Nat)(HSTC:StC w0 A n c l g rb sb gb cap cR cS N U R sp X f):BlC w0 A n c l g rb sb gb cap cR cS N U R sp X f:=by
 intro p w G fo ha ex h hX hG hGN hpf hp hk6
 refine(callsIn_wide (n:=3)).1 ?_
 have HL:=hid hT.len
 have hpn:p<n:=by rw[hT.len];exact hp
 have hpz:(p:Int)<(n:Int):=by omega
 obtain⟨W0,hW0⟩:∃W0,(w.alloc (.cells #[.pointer (some ⟨g,0,none⟩)] 157)).alloc (.cells #[.int .i64 fo,.int .i64 ha,.int .i64 ex] 160)=W0:=⟨_,rfl⟩
 have hz0:W0.heap.size=w.heap.size+1+1:=by rw[<- hW0,World.size_alloc,World.size_alloc]
 have HB0:=hid (show Below w.heap.size w W0 by rw[<- hW0];exact((Below.refl _ w).alloc (Nat.le_refl _) _).alloc (by simp) _)
 have HT0:=hid (show Bx W0 w.heap.size 157 [.pointer (some ⟨g,0,none⟩)]by rw[<- hW0];exact(Bx.new w 157 _).alloc _)
 have HC0:=hid (show Bx W0 (w.heap.size+1) 160 [.int .i64 fo,.int .i64 ha,.int .i64 ex] by
  rw[<- hW0];have:=Bx.new (w.alloc (.cells #[.pointer (some ⟨g,0,none⟩)] 157)) 160 [.int .i64 fo,.int .i64 ha,.int .i64 ex];rw[World.size_alloc]at this;exact this)
 have hgbw:=hG.lt
 have HS:=hid h
 have HG:=hid hG
 have HX:=hid hX
 have HN:=hid (And.intro hGN (And.intro hpf hp))
 have hnd:=h.below HB0.out
 obtain⟨bA,off,K,cK,rfl,xt,x0,x1,x2,x3,x4,xI⟩:=node_at hT.nds hnd.b p hp
 have hks:Tr.nth l p=l[p]:=Tr.nth_eq hp
 obtain⟨ks,hq⟩:∃ks,(l[p]'hp).ks=ks:=⟨_,rfl⟩
 have hfew:=hF.few _ (List.getElem_mem hp)
 have HKID:=hid (hF.blk p hp hk6)
 rw[hks]at HKID
 have HBE:=hid (show blG l R sp f G p fo ha ex=bkG (λG p fo=>stG l R sp f G p fo ha ex) ks.reverse G fo by unfold blG;rw[hks,hq])
 rw[hq]at x4 xI hfew HKID
 obtain⟨mk,hmk⟩:∃mk,ks.length=mk:=⟨_,rfl⟩
 rw[hmk]at x4
 have HMK:=hid hmk
 have HXI:=hid xI
 have HF:=hid hF
 have HST:=hid HSTC
 have hmk4:mk<=4000:=by rw[<- hmk];exact hfew
 have t0:=(HT0.out.cell 0).trans rfl
 have g0:=(hnd.bx.cell 0).trans rfl
 clear h hG hX hGN hpf hF hT hnd hks hq hfew hmk xI x0 x1 x2 x3 hk6 HSTC
 refine callsIn_of_wp_marks Tryz.func137 rfl trivial ?_ rfl
 simp only[Tryz.ntmps137,List.size_toArray,List.length_cons,List.length_nil,Nat.reduceAdd,Nat.reduceSub,Array.replicate_succ,Array.replicate_zero,List.push_toArray,List.append_toArray,List.nil_append,List.cons_append]
 gi_wp2_with (refine⟨trivial,?_⟩;gi_at_call 107;refine(callsIn_wide.2 (callsIn_wide.1 (Tr.back_in _ _ _ _))).mono ?_;rintro e w' ⟨rfl,rfl⟩)
 obtain⟨W1,hW1⟩:∃W1,W0.alloc (.cells #[.slice K mk cK] 28)=W1:=⟨_,rfl⟩
 have hz1:W1.heap.size=w.heap.size+1+1+1:=by rw[<- hW1,World.size_alloc,hz0]
 have HB1:=hid (show Below W0.heap.size W0 W1 by rw[<- hW1];exact heap1 _ _)
 have hs2:Bx W1 (w.heap.size+1+1) 28 [.slice K mk cK]:=by rw[<- hW1,<- hz0];exact Bx.new W0 28 _
 rw[hW1]
 have hA1:∀j,j<mk->∃b off,K=some ⟨b,off,none⟩/\b<w0.heap.size/\W1.cell? ⟨b,off+j,none⟩=some (.int .i64 (ks[j]?.getD 0)):=λj hj=>by
  have hm:=HMK.out
  obtain⟨b1,off1,e1,hl1,hc1⟩:=HXI.out (by omega)
  refine⟨b1,off1,e1,hl1,?_⟩
  have h1:=((HS.out.b.trans (HB0.out.mono HS.out.b.size)).trans (HB1.out.mono (Nat.le_trans HS.out.b.size HB0.out.size))).cell (p:=⟨b1,off1+j,none⟩) hl1
  rw[h1,hc1 j (by omega)];simp[show j<ks.length by omega]
 have hgew:=HS.out.b.size
 have hgge:=HS.out.ge
 have HA1:=hid hA1
 clear t0 g0 x4 xt hW0 hW1 hA1
 refine wpIn_rangeFunc_ownG rfl (by omega) (gf:=162) (lb := #[.pointer (some ⟨w.heap.size+1+1,0,none⟩)]) rfl trivial (enters_of Tryz.func162 (by kernel_rfl) rfl)
  (Tr.backk_stops (w.heap.size+1+1) w0.heap.size K cK mk (λj=>ks[j]?.getD 0) (by omega) W1 (by omega) (by omega) (hs2.cell 0) HA1.out)
  (λh k=>⟨h.1.trans k.1,k.2.trans h.2⟩)
  (λX q o o' hq ho h1 h2=>⟨⟨rfl,rfl,rfl,by simp[World.putObj],λj hj=>World.putObj_heap_other (by omega)⟩,World.putObj_heap_other (by omega)⟩) (Below.refl _ _) (λ_=>rfl)
  (λpre Y=>BkI w W1 g gb (cap*5) X ha ex (bkG (λG p fo=>stG l R sp f G p fo ha ex) (pre.map (λx:Fin mk=>ks[(x:Nat)]?.getD 0)) G fo) Y)
  (λ_ _ _=>False)
  (λpre Y Z row hs hg hr=>hs.own hg hr (by omega))
  (λ_ pre Y Z row hs hg hr=>hs.elim)
  ⟨HT0.out.below HB1.out HT0.out.lt,HC0.out.below HB1.out HC0.out.lt,(HG.out.below HB0.out).below HB1.out,Fr.of (HB0.out.trans (HB1.out.mono HB0.out.size)),Nat.le_refl _⟩
  (λx => { tmps := #[.pointer (some ⟨g,0,none⟩),.int .i64 (p:Int),.agg #[.int .i64 fo,.int .i64 ha,.int .i64 ex],.pointer (some ⟨w.heap.size,0,none⟩),undef,.pointer (some ⟨w.heap.size+1,0,none⟩),.int .i64 0,undef,.int .i64 (ks[(x:Nat)]?.getD 0),.pointer (some ⟨g,0,none⟩),.pointer (some ⟨g,0,none⟩),.pointer (some ⟨g,0,none⟩),.slice (some ⟨bA,off,none⟩) n c,.int .i64 (p:Int),.pointer (some ⟨bA,off+p*5,none⟩),.pointer (some ⟨bA,off+p*5+4,none⟩),.slice K mk cK,.func (.func 162) #[] #[.pointer (some ⟨w.heap.size+1+1,0,none⟩)],.int .i64 ((x:Nat):Int),.int .i64 (ks[(x:Nat)]?.getD 0),undef,undef,undef,undef,undef,undef,undef],defers:=[] }) ?assign ?body ?done ?stop
 case assign=>
  intro l' x X K' hK
  gi_wp2
  exact hK
 case stop=>intro D cd pre X hD _ hs hK;exact hs.elim
 case body=>
  rintro l' pre x Y hI hpre
  obtain⟨⟨G1,f1⟩,hr⟩:∃R',bkG (λG p fo=>stG l R sp f G p fo ha ex) (pre.map (λx:Fin mk=>ks[(x:Nat)]?.getD 0)) G fo=R':=⟨_,rfl⟩
  rw[hr]at hI
  have hxk:(x:Nat)<ks.length:=by rw[HMK.out];exact x.2
  obtain⟨i,hki,hip,hst⟩:=HKID.out _ (List.getElem_mem hxk)
  have hkv:ks[(x:Nat)]?.getD 0=(i:Int):=by simp[hxk,hki]
  have HLN:=hid (show G1.length=N by
   have:=bkG_len (st:=λG p fo=>stG l R sp f G p fo ha ex) (λG p fo=>stG_len l R sp f G p fo ha ex) (pre.map (λx:Fin mk=>ks[(x:Nat)]?.getD 0)) G fo
   rw[hr]at this;exact this.trans HN.out.1)
  have HC:=hid (HST.out i Y G1 f1 ha ex (HS.out.fr hI.f) (λb hb=>Nat.lt_of_lt_of_le (HX.out b hb) hI.f.size) hI.g HLN.out (by have:=HN.out;omega) (by have:=HN.out;omega) hst)
  obtain⟨⟨G2,f2⟩,hr2⟩:∃R',stG l R sp f G1 i f1 ha ex=R':=⟨_,rfl⟩
  rw[hr2]at HC
  have HR:=hid (show bkG (λG p fo=>stG l R sp f G p fo ha ex) ((pre++[x]).map (λx:Fin mk=>ks[(x:Nat)]?.getD 0)) G fo=(G2,f2) by
   rw[List.map_append,bkG_app,hr]
   show bkG (λG p fo=>stG l R sp f G p fo ha ex) [ks[(x:Nat)]?.getD 0] G1 f1=_
   rw[hkv]
   show(stG l R sp f G1 (i:Int).toNat f1 ha ex)=_
   rw[Int.toNat_natCast,hr2])
  rw[hkv]
  have HI:=hid hI
  have t0:=(hI.t.cell 0).trans rfl
  have c0:=(hI.c.cell 0).trans rfl
  have c1:=(hI.c.cell 1).trans rfl
  have c2:=(hI.c.cell 2).trans rfl
  clear hr hr2 hkv hki hI hpre HKID
  gi_wp2_with (refine⟨trivial,?_⟩;gi_at_call 189;refine((callsIn_wide.2 (HC.out)).inRound l').mono ?_;rintro e Z ⟨rfl,h5,h6⟩;have cz:=Bx.fr HI.out.c h5 (by intro e;have e:w.heap.size+1=gb:=e;omega);have z0:=(cz.cell 0).trans rfl;have zf:=cz.frozen 0)
  refine⟨((keeps_fr h5 HI.out.g).trans (KeepsOthers.setCell _ _ _)).from _,⟨(h5.below (λi e=>by have e:i=gb:=e;omega) (by have:=HI.out.z;omega)).setCell (p:=⟨w.heap.size+1,0,none⟩) (show w0.heap.size<=w.heap.size+1 by omega) _,
   (heap_setCell_other Z _ _ _ (by show w.heap.size+1+1≠w.heap.size+1;omega)).trans (h5.block (w.heap.size+1+1) (by have:=HI.out.z;omega) (λe=>by have e:w.heap.size+1+1=gb:=e;omega))⟩,?_⟩
  dsimp only
  rw[HR.out]
  exact⟨(Bx.fr HI.out.t h5 (λe=>by have e:w.heap.size=gb:=e;omega)).far (p:=⟨w.heap.size+1,0,none⟩) (by show w.heap.size≠w.heap.size+1;omega) _,cz.set_ 0 _,h6.setb cz (by decide) (by omega) _ _,(HI.out.f.trans h5).new (by omega) _,by rw[World.size_setCell];exact Nat.le_trans HI.out.z h5.size⟩
 case done=>
  rintro D ys Y hD rfl hI hK
  rw[Tr.seqF_map ks HMK.out.symm,<- HBE.out]at hI
  have HI:=hid hI
  have HK:=hid hK
  have c0:=(hI.c.cell 0).trans rfl
  clear hI hK
  gi_wp2
  refine Tr.leave_marks (lo:=W1.heap.size) _ _ _ (show Tr.Marks W1.heap.size Y [{ target :=.collected D,args := #[] }] (D+1) from⟨D,rfl,hD,by omega,HK.out,trivial⟩) λw' hb hc =>?_
  refine⟨.int .i64 (blG l R sp f G p fo ha ex).2,?_,rfl,⟨hb.os.trans HI.out.f.os,hb.tape.trans HI.out.f.tape,hb.output.trans HI.out.f.output,Nat.le_trans HI.out.f.size hb.size,λk hk hE=>(hb.block k (by omega)).trans (HI.out.f.block k hk hE)⟩,HI.out.g.kept hc⟩
  simp[results,Tryz.f137,go_sem]
theorem stbl_any (hT:TT w0 A n l)(hF:FlOk l sp N):∀f:Nat,StC w0 A n c l g rb sb gb cap cR cS N U R sp X f/\BlC w0 A n c l g rb sb gb cap cR cS N U R sp X f
 |0=>by
  have h:StC w0 A n c l g rb sb gb cap cR cS N U R sp X 0:=λp w G fo ha ex _ _ _ _ hp=>absurd hp (Nat.not_lt_zero _)
  exact⟨h,block_any hT hF 0 h⟩
 |f+1=>by
  have h:StC w0 A n c l g rb sb gb cap cR cS N U R sp X (f+1):=λp w G fo ha ex hS hX hG hN hp hpl hst=>
   stmt_any hT hF f (stbl_any hT hF f).2 p w G fo ha ex hS hG hN hX (by omega) hpl hst
  exact⟨h,block_any hT hF (f+1) h⟩
end
end Go.Proofs.YtedkgofehbecmaaGreatDoor
namespace Go.Proofs.YtedkgofehbecmaaGreatDoor
open Go.Lib (hid)
open Go Go.RowKit
open Tr (Bx)
theorem GNodes.gr {w:World}{X:Nat->Prop}{base:Nat}{V:Value}{G:List Gn}(h:GNodes w X base V G)(h0:0<G.length):∃gb cap,V = .slice (some ⟨gb,0,none⟩) G.length cap/\base<=gb/\G.length<=cap/\cap<=maxLen/\GR w gb (cap*5) X G:=by
 obtain⟨xs,⟨hl,hr⟩,hc⟩:=h
 rcases hr with⟨_,e⟩ |⟨gb,cap,cur,e1,e2,e3,e4,e5,e6,e7⟩
 ·omega
 ·refine⟨gb,cap,e1,e2,e4,e5,cur.toList,e3,⟨by simp[e6],by omega⟩,λj hj =>?_⟩
  obtain⟨K,c,hd,hk⟩:=hc j hj
  have key:∀i,i<5->cur.toList[j*5+i]?=((xs.drop (j*5)).take 5)[i]?:=λi hi=>by
   rw[<- e7,List.getElem?_take_of_lt hi,List.getElem?_drop,List.getElem?_take_of_lt (by omega)]
  rw[hd]at key
  exact⟨key 0 (by omega),key 1 (by omega),key 2 (by omega),key 4 (by omega),K,c,key 3 (by omega),hk⟩
theorem GR.own {w:World}{X:Nat->Prop}{base gb cap:Nat}{G:List Gn}(h:GR w gb (cap*5) X G)(hb:base<=gb)(hc:G.length<=cap)(hm:cap<=maxLen):GNodes w X base (.slice (some ⟨gb,0,none⟩) G.length cap) G:=by
 obtain⟨cs,h1,h2,h3⟩:=h
 refine⟨cs.take (G.length*5),⟨by rw[List.length_take];omega,.inr ⟨gb,cap,cs.toArray,rfl,hb,h1,hc,hm,by simp[h2.1],by simp⟩⟩,λj hj =>?_⟩
 obtain⟨a,b,c,d,K,k,e,f⟩:=h3 j hj
 refine⟨K,k,?_,f⟩
 apply List.ext_getElem?
 intro i
 by_cases hi:i<5
 ·rw[List.getElem?_take_of_lt hi,List.getElem?_drop,List.getElem?_take_of_lt (by omega)]
  rcases(by omega:i=0\/i=1\/i=2\/i=3\/i=4)with rfl |rfl |rfl |rfl |rfl
  ·exact a
  ·exact b
  ·exact c
  ·exact e
  ·exact d
 ·rw[List.getElem?_eq_none (by rw[List.length_take];omega),List.getElem?_eq_none (by simp;omega)]
end Go.Proofs.YtedkgofehbecmaaGreatDoor
