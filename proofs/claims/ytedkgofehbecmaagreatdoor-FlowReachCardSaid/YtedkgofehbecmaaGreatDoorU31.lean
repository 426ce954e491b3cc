/- PROVED here: parts N33 of the claim. No condition but those in each theorem's own head. -/
import Derived.Test.YtedkgofehbecmaaGreatDoorU27
namespace Go.Proofs.YtedkgofehbecmaaGreatDoor
open Go.Lib (hid)
open Go Go.RowKit Go.Shelf
open Tr (Bx heap1 bt Nds Ints VPost BPost IPost Ib mkI make22 seqF KpB NV Marks)
attribute [local go_sem] Oper.semAt_some
set_option maxRecDepth 100000 in
set_option maxHeartbeats 1500000 in
theorem isDecl_any (k:Int)(w:World):Calls Tryz.prog 105 #[.int .i64 k] w λe w'=>e = .returned (.bool (decB k))/\w'=w:=by
 unfold decB
 by_cases h2:k=2
 ·subst h2
  go_enter Tryz.func105,Tryz.ntmps105
  go_wp2
  go_ret
  exact⟨rfl,rfl⟩
 ·have e2:(k==2)=false:=beq_eq_false_iff_ne.2 h2
  by_cases h4:k=4
  ·subst h4
   go_enter Tryz.func105,Tryz.ntmps105
   go_wp2
   go_ret
   exact⟨rfl,rfl⟩
  ·have e4:(k==4)=false:=beq_eq_false_iff_ne.2 h4
   by_cases h5:k=5
   ·subst h5
    go_enter Tryz.func105,Tryz.ntmps105
    go_wp2
    go_ret
    exact⟨rfl,rfl⟩
   ·have e5:(k==5)=false:=beq_eq_false_iff_ne.2 h5
    rw[decide_eq_false h2,decide_eq_false h4,decide_eq_false h5]
    go_enter Tryz.func105,Tryz.ntmps105
    go_wp2
    go_ret
    exact⟨rfl,rfl⟩
def rdZ:List Value:=[.slice none 0 0,.slice none 0 0,.map none,.map none]
structure Rd1 (A:Option Addr) (n c:Nat) (r:Int) (w w1:World):Prop where
 t:Bx w1 w.heap.size 24 [.slice A n c,.int .i64 r]
 z:Bx w1 (w.heap.size+1) 87 rdZ
 d:MapIs w1 129 (w.heap.size+1+1) (λ_=>none) 0
 q:MapIs w1 9 (w.heap.size+1+1+1) (λ_=>none) 0
 p:Bx w1 (w.heap.size+1+1+1+1) 87 [.slice none 0 0,.slice none 0 0,.map (some (w.heap.size+1+1)),.map (some (w.heap.size+1+1+1))]
 b:Below w.heap.size w w1
 sz:w.heap.size+1+1+1+1+1<=w1.heap.size
theorem Rd1.below {A:Option Addr}{n c:Nat}{r:Int}{w w0 w1:World}(h:Rd1 A n c r w w0)(hb:Below w0.heap.size w0 w1):Rd1 A n c r w w1:=
 ⟨h.t.below hb h.t.lt,h.z.below hb h.z.lt,h.d.below hb h.d.lt,h.q.below hb h.q.lt,h.p.below hb h.p.lt,bt h.b hb,Nat.le_trans h.sz hb.size⟩
theorem rd1_start (A:Option Addr)(n c:Nat)(r:Int)(w:World):Rd1 A n c r w (((((w.alloc (.cells #[.slice A n c,.int .i64 r] 24)).alloc (.cells #[.slice none 0 0,.slice none 0 0,.map none,.map none] 87)).alloc (.map #[] 0)).alloc (.map #[] 0)).alloc (.cells #[.slice none 0 0,.slice none 0 0,.map (some (w.heap.size+1+1)),.map (some (w.heap.size+1+1+1))] 87)):=by
 have e0:∀(w':World) (o:Obj),(w'.alloc o).heap.size=w'.heap.size+1:=λw' o=>World.size_alloc w' o
 have k1:=Bx.new w 24 [.slice A n c,.int .i64 r]
 have k2:=Bx.new (w.alloc (.cells #[.slice A n c,.int .i64 r] 24)) 87 rdZ
 have k3:=MapIs.made ((w.alloc (.cells #[.slice A n c,.int .i64 r] 24)).alloc (.cells #[.slice none 0 0,.slice none 0 0,.map none,.map none] 87)) 129
 have k4:=MapIs.made (((w.alloc (.cells #[.slice A n c,.int .i64 r] 24)).alloc (.cells #[.slice none 0 0,.slice none 0 0,.map none,.map none] 87)).alloc (.map #[] 0)) 9
 have k5:=Bx.new ((((w.alloc (.cells #[.slice A n c,.int .i64 r] 24)).alloc (.cells #[.slice none 0 0,.slice none 0 0,.map none,.map none] 87)).alloc (.map #[] 0)).alloc (.map #[] 0)) 87 [.slice none 0 0,.slice none 0 0,.map (some (w.heap.size+1+1)),.map (some (w.heap.size+1+1+1))]
 rw[e0]at k2
 rw[e0,e0]at k3
 rw[e0,e0,e0]at k4
 rw[e0,e0,e0,e0]at k5
 exact⟨(((k1.alloc _).alloc _).alloc _).alloc _,((k2.alloc _).alloc _).alloc _,(k3.below (heap1 _ _) k3.lt).below (heap1 _ _) (by rw[e0];exact Nat.lt_succ_of_lt k3.lt),k4.below (heap1 _ _) k4.lt,k5,bt (heap1 _ _) (bt (heap1 _ _) (bt (heap1 _ _) (bt (heap1 _ _) (heap1 _ _)))),by rw[e0,e0,e0,e0,e0];exact Nat.le_refl _⟩
theorem nv_of {w:World}{A:Option Addr}{l:List Tr.Nd}(hN:Nds w A l)(h0:0<l.length):∃(nv:Nat->NV) (b off:Nat),A=some ⟨b,off,none⟩/\b<w.heap.size/\∀j,j<l.length->(nv j).In w b (off+j*5)/\(nv j).kd=(ndA l j).kd/\(nv j).tx=(ndA l j).tx:=by
 obtain⟨b,off,rfl,hlt,hc⟩:=hN h0
 have:∀j:Nat,∃x:NV,j<l.length->x.In w b (off+j*5)/\x.kd=(ndA l j).kd/\x.tx=(ndA l j).tx:=λj=>by
  by_cases hj:j<l.length
  ·obtain⟨K,c,c0,c1,c2,c3,c4,_⟩:=hc j hj
   exact⟨⟨l[j].kd,l[j].n,l[j].pl,l[j].tx,K,l[j].ks.length,c⟩,λ_=>⟨⟨c0,c1,c2,c3,c4⟩,by rw[ndA_eq hj],by rw[ndA_eq hj]⟩⟩
  ·exact⟨NV.no,λh=>absurd h hj⟩
 exact⟨λj=>(this j).choose,b,off,rfl,hlt,λj=>(this j).choose_spec⟩
def rdI (w:World)(A:Option Addr)(n c G B:Nat)(l:List Tr.Nd)(pre:List (Fin n))(X:World):Prop:=
 ∃cd cp:Nat,cd<=pre.length/\cp<=pre.length/\RdB w A n c G B X (rdL l (pre.map (·.val))).ow (rdL l (pre.map (·.val))).ar (rdL l (pre.map (·.val))).dc (rdL l (pre.map (·.val))).pc cd cp X/\B<=X.heap.size
theorem rdI_fin {w:World}{A:Option Addr}{n c G B:Nat}{l:List Tr.Nd}{pre:List (Fin n)}{x:Fin n}{X0 X:World}{ow:Int}{ar:Nat->Int}{dc pc:Value->Option Int}{cd cp:Nat}(h:RdB w A n c G B X0 ow ar dc pc cd cp X)(hcd:cd<=pre.length+1)(hcp:cp<=pre.length+1)(hB:B<=X.heap.size)
  (e1:ow=(rdS l (rdL l (pre.map (·.val))) x).ow) (e2:∀j,ar j=(rdS l (rdL l (pre.map (·.val))) x).ar j) (e3:∀v,dc v=(rdS l (rdL l (pre.map (·.val))) x).dc v) (e4:∀v,pc v=(rdS l (rdL l (pre.map (·.val))) x).pc v):KeepsFrom B X0 X/\KpB w.heap.size (G+1+1) X0 X/\rdI w A n c G B l (pre++[x]) X:=by
 refine⟨h.k,h.kp,cd,cp,by rw[List.length_append];exact hcd,by rw[List.length_append];exact hcp,?_,hB⟩
 rw[List.map_append,List.map_cons,List.map_nil,rdL_snoc,<- e1,<- funext e2,<- funext e3,<- funext e4]
 exact h.start
def RdPost (l:List Tr.Nd)(A:Option Addr)(w:World)(e:Ending)(w':World):Prop:=
 ∃n c O co bd bp,e = .returned (PrV A n c O co bd bp)/\n=l.length/\Below w.heap.size w w'/\Ints w' O ((List.range l.length).map λp=>owA l p)/\MapIs w' 129 bd (dclF l 0) 5000/\MapIs w' 9 bp (prcF l 0) 5000
def rdFr (A:Option Addr)(n c:Nat)(r:Int)(w:World)(G:Nat)(x5 x6 x25 x26:Value):Act := { tmps := #[.agg #[.slice A n c,.int .i64 r],.pointer (some ⟨w.heap.size,0,none⟩),.pointer (some ⟨w.heap.size+1,0,none⟩),.pointer (some ⟨w.heap.size+1+1+1+1,0,none⟩),.pointer (some ⟨G+1,0,none⟩),x5,x6,.map (some (w.heap.size+1+1)),.map (some (w.heap.size+1+1+1)),.agg #[.slice none 0 0,.slice none 0 0,.map (some (w.heap.size+1+1)),.map (some (w.heap.size+1+1+1))],.agg #[.slice A n c,.int .i64 r],.bool true,.bool false,undef,.pointer (some ⟨w.heap.size,0,none⟩),.slice A n c,.pointer (some ⟨w.heap.size+1+1+1+1,0,none⟩),.pointer (some ⟨w.heap.size,0,none⟩),.slice A n c,.int .i64 (n:Int),.slice (some ⟨G,0,none⟩) n n,.pointer (some ⟨w.heap.size+1+1+1+1,1,none⟩),.pointer (some ⟨w.heap.size,0,none⟩),.slice A n c,.func (.func 161) #[] #[.pointer (some ⟨G+1+1,0,none⟩)],x25,x26,undef,undef,undef,undef,undef,undef,undef,undef,undef,undef,undef,undef,undef,undef,undef,undef,undef,undef,undef,undef,undef,undef,undef,undef,undef,undef,undef,undef],defers:=[] }
def rdA (A:Option Addr)(n c:Nat)(r:Int)(w:World)(G B:Nat)(nv:Nat->NV)(x:Fin n)(a:Act)(X:World):Prop:=
 ∃Bn,B<=Bn/\Bx X Bn 50 [.int .i64 (nv x).kd,.int .i64 (nv x).n,.int .i64 (nv x).pl,.string (nv x).tx,.slice (nv x).K (nv x).m (nv x).c]/\a=rdFr A n c r w G (.int .i64 ((x:Nat):Int)) (.pointer (some ⟨Bn,0,none⟩)) (.int .i64 ((x:Nat):Int)) (nv x).v
set_option maxRecDepth 100000 in
set_option maxHeartbeats 3000000 in
theorem read_go (A:Option Addr)(c n:Nat)(r:Int)(l:List Tr.Nd)(w:World)(hN:Nds w A l)(hnl:n=l.length)(h1n:1<=n)(hn:n<=4000)(htx:∀x ∈ l,x.tx.size<=281474976710656)(HRT:∀w',Below w.heap.size w w'->Calls Tryz.prog 103 #[.agg #[.slice A n c,.int .i64 r]] w' (BPost true w'))
  (R:Ending->World->Prop) (HPS:RowKit.Hid (∀e w',RdPost l A w e w'->R e w')):CallsIn Fence.wide 3 Tryz.prog 68 #[.agg #[.slice A n c,.int .i64 r]] w R:=by
 have HN:=hid hN
 have HL:=hid hnl
 have HTX:=hid htx
 clear hN hnl htx
 have HST:=hid (rd1_start A n c r w)
 refine callsIn_of_wp_marks Tryz.func68 rfl trivial ?_ rfl
 simp only[Tryz.ntmps68,List.size_toArray,List.length_cons,List.length_nil,Nat.reduceAdd,Nat.reduceSub,Array.replicate_succ,Array.replicate_zero,List.push_toArray,List.append_toArray,List.nil_append,List.cons_append]
 have hmm :=@run_makeMap Tryz.prog
 gi_wp2_with (refine⟨trivial,?_⟩;gi_at_call 103;refine(callsIn_wide.2 (HRT _ (by exact HST.out.b))).mono ?_)
 rintro e w1 ⟨rfl,hb1⟩
 have H1:=hid (HST.out.below hb1)
 clear hb1 HST hmm
 have hmk:=λw'=>make22 n (by omega) w'
 have t0:=(H1.out.t.cell 0).trans rfl
 have p0:=(H1.out.p.cell 0).trans rfl
 have p1:=(H1.out.p.cell 1).trans rfl
 have f0:=H1.out.p.frozen 0
 have f1:=H1.out.p.frozen 1
 have hsz:=H1.out.sz
 obtain⟨W2,hW2⟩:∃W2,(w1.setCell ⟨w.heap.size+1+1+1+1,0,none⟩ (.slice A n c)).alloc (.cells (mkI n λ_=>0) 3)=W2:=⟨_,rfl⟩
 have H2:=hid hW2
 have p2:W2.cell? ⟨w.heap.size+1+1+1+1,1,none⟩=some (.slice none 0 0):=by
  rw[<- hW2];exact((((H1.out.p.set_ 0 (.slice A n c)).alloc _).cell 1).trans rfl)
 have f2:W2.frozen? ⟨w.heap.size+1+1+1+1,1,none⟩=false:=by
  rw[<- hW2];exact(((H1.out.p.set_ 0 (.slice A n c)).alloc _).frozen 1)
 have t2:W2.cell? ⟨w.heap.size,0,none⟩=some (.slice A n c):=by
  rw[<- hW2];exact(((H1.out.t.far (p:=⟨w.heap.size+1+1+1+1,0,none⟩) (by show w.heap.size≠w.heap.size+1+1+1+1;omega) _).alloc _).cell 0).trans rfl
 obtain⟨W3,hW3⟩:∃W3,(W2.setCell ⟨w.heap.size+1+1+1+1,1,none⟩ (.slice (some ⟨w1.heap.size,0,none⟩) n n)).alloc (.cells #[.int .i64 (-1)] 3)=W3:=⟨_,rfl⟩
 have H3:=hid hW3
 have t3:W3.cell? ⟨w.heap.size,0,none⟩=some (.slice A n c):=by
  rw[<- hW3,<- hW2]
  exact((((((H1.out.t.far (p:=⟨w.heap.size+1+1+1+1,0,none⟩) (by show w.heap.size≠w.heap.size+1+1+1+1;omega) _).alloc _).far (p:=⟨w.heap.size+1+1+1+1,1,none⟩) (by show w.heap.size≠w.heap.size+1+1+1+1;omega) _).alloc _).cell 0).trans rfl)
 gi_wp2_with (refine⟨trivial,?_⟩;gi_at_call 104;refine(Tr.backn_in _ _ _ _).mono ?_;rintro e w' ⟨rfl,rfl⟩)
 have hs2:W2.heap.size=w1.heap.size+1:=by rw[<- hW2,World.size_alloc,World.size_setCell]
 have hs3:W3.heap.size=w1.heap.size+1+1:=by rw[<- hW3,World.size_alloc,World.size_setCell,hs2]
 obtain⟨WS,hWS⟩:∃WS,W3.alloc (.cells #[.slice A n c] 22)=WS:=⟨_,rfl⟩
 have hsS:WS.heap.size=w1.heap.size+1+1+1:=by rw[<- hWS,World.size_alloc,hs3]
 rw[hWS,hs2,hs3]
 have hRB:RdB w A n c w1.heap.size (w1.heap.size+1+1+1) WS (-1) (λ_=>0) (λ_=>none) (λ_=>none) 0 0 WS/\Bx WS (w1.heap.size+1+1) 22 [.slice A n c]:=by
  have hz:=H1.out.sz
  have hk:∀k,k<w1.heap.size->k≠w.heap.size+1+1+1+1->WS.heap[k]?=w1.heap[k]?:=λk h1 h2=>by
   rw[<- hWS,Below.heap_alloc _ _ _ (by omega),<- hW3,Below.heap_alloc _ _ _ (by rw[World.size_setCell];omega),heap_setCell_other _ _ _ _ h2,<- hW2,Below.heap_alloc _ _ _ (by rw[World.size_setCell];omega),heap_setCell_other _ _ _ _ h2]
  have hP:Bx WS (w.heap.size+1+1+1+1) 87 [.slice A n c,.slice (some ⟨w1.heap.size,0,none⟩) n n,.map (some (w.heap.size+1+1)),.map (some (w.heap.size+1+1+1))]:=by
   rw[<- hWS,<- hW3,<- hW2]
   exact((((H1.out.p.set_ 0 (.slice A n c)).alloc _).set_ 1 (.slice (some ⟨w1.heap.size,0,none⟩) n n)).alloc _).alloc _
  have hO:Ib WS w1.heap.size n (λ_=>0):=by
   have k1:=World.alloc_heap_new (w1.setCell ⟨w.heap.size+1+1+1+1,0,none⟩ (.slice A n c)) (.cells (mkI n λ_=>0) 3)
   rw[World.size_setCell]at k1
   rw[<- hWS,<- hW3,<- hW2]
   exact((((show Ib _ _ n (λ_=>0)from k1).far (p:=⟨w.heap.size+1+1+1+1,1,none⟩) (by show w1.heap.size≠w.heap.size+1+1+1+1;omega) _).alloc _).alloc _)
  have hS1:Bx WS (w1.heap.size+1) 3 [.int .i64 (-1)]:=by
   have k1:=Bx.new (W2.setCell ⟨w.heap.size+1+1+1+1,1,none⟩ (.slice (some ⟨w1.heap.size,0,none⟩) n n)) 3 [.int .i64 (-1)]
   rw[World.size_setCell,hs2]at k1
   rw[<- hWS,<- hW3]
   exact k1.alloc _
  have hS2:Bx WS (w1.heap.size+1+1) 22 [.slice A n c]:=by
   have k1:=Bx.new W3 22 [.slice A n c]
   rw[hs3]at k1
   rw[<- hWS];exact k1
  have hb:Below w.heap.size w WS:=by
   have h2:Below w.heap.size w1 WS:=by
    refine⟨?_,?_,?_,by rw[hsS];omega,λk hk2=>hk k (by omega) (by omega)⟩
    ·rw[<- hWS,<- hW3,<- hW2];rfl
    ·rw[<- hWS,<- hW3,<- hW2];rfl
    ·rw[<- hWS,<- hW3,<- hW2];rfl
   exact H1.out.b.trans h2
  exact⟨⟨H1.out.z.same (hk _ (by omega) (by omega)),hP,H1.out.d.same (hk _ (by omega) (by omega)),H1.out.q.same (hk _ (by omega) (by omega)),hO,hS1,hb,KeepsFrom.refl _ _,⟨Below.refl _ _,rfl⟩,by omega,by omega⟩,hS2⟩
 have HRB:=hid hRB
 clear hmk t0 p0 p1 f0 f1 hsz p2 f2 t2 t3 hW2 hW3 hWS H1 H2 H3 hRB hs2 hs3
 obtain⟨G,hG⟩:∃G,G=w1.heap.size:=⟨_,rfl⟩
 rw[<- hG]at HRB hsS |-
 clear hG
 obtain⟨nv,bA,off,hA,hbA,hnv⟩:=nv_of HN.out (by have:=HL.out;omega)
 have HNV:=hid hnv
 have HA:=hid hA
 clear hA hnv
 have hgg:=HRB.out.1.g
 refine wpIn_rangeFunc_ownH rfl (by omega) (gf:=161) (lb := #[.pointer (some ⟨G+1+1,0,none⟩)]) rfl trivial (enters_of Tryz.func161 (by kernel_rfl) rfl)
  (Tr.backn_stops (G+1+1) w.heap.size A c n nv (by omega) WS (by omega) (by omega) ((HRB.out.2.cell 0).trans rfl) (λj hj=>⟨bA,off,HA.out,hbA,(HNV.out j (by rw[<- HL.out];exact hj)).1.below HRB.out.1.b hbA⟩))
  (λh k=>kp_trans h k)
  (λX q o o' hq ho h1 h2=>⟨⟨rfl,rfl,rfl,by simp[World.putObj],λj hj=>World.putObj_heap_other (by omega)⟩,World.putObj_heap_other (by omega)⟩) (Below.refl _ _) (λ_=>rfl)
  (λpre X=>rdI w A n c G (G+1+1+1) l pre X)
  (λ_ _ _=>False)
  (λpre X Y row hs hg hr=>by
   obtain⟨cd,cp,h1,h2,h3,h4⟩:=hs
   exact⟨cd,cp,h1,h2,h3.own hg (λr e=>⟨by have:=(hr r e).1;omega,(hr r e).2⟩),Nat.le_trans h4 hg.size⟩)
  (λ_ pre X Y row hs hg hr=>hs.elim)
  ⟨0,0,Nat.le_refl _,Nat.le_refl _,HRB.out.1,by omega⟩
  (λx a' X=>rdA A n c r w G (G+1+1+1) nv x a' X)
  (λx a' _ X Y row hs hg hr=>by
   obtain⟨Bn,h1,h2,h3⟩:=hs
   exact⟨Bn,h1,h2.grown hg (Tr.ne_row h2 hr),h3⟩)
  ?assign ?body ?done ?stop
 case stop=>intro D cd pre X hD _ hs hK;exact hs.elim
 case assign=>
  intro l' pre x X K' hI hK
  dsimp only[NV.v]
  gi_wp2
  refine hK _ _ ((KeepsOthers.alloc _ _).from _) ⟨heap1 _ _ |>.mono ?_,?_⟩ ?_ ⟨X.heap.size,?_,Bx.new X 50 _,rfl⟩
  ·obtain⟨cd,cp,h1,h2,h3,h4⟩:=hI;omega
  ·obtain⟨cd,cp,h1,h2,h3,h4⟩:=hI;exact Below.heap_alloc _ _ _ (by omega)
  ·obtain⟨cd,cp,h1,h2,h3,h4⟩:=hI
   exact⟨cd,cp,h1,h2,h3.own (World.grownBy_alloc _ _ none) (λr e=>by cases e),by rw[World.size_alloc];omega⟩
  ·obtain⟨cd,cp,h1,h2,h3,h4⟩:=hI;exact h4
 case body=>
  rintro l' pre x a' X hlw hlr ⟨cd,cp,hcd,hcp,hR,hsz⟩ ⟨Bn,hBn,hx,rfl⟩ hpre
  clear HRB hlw hlr
  have hxl:(x:Nat)<l.length:=by rw[<- HL.out];exact x.2
  obtain⟨_,ekd,etx⟩:=HNV.out x hxl
  have htx:(nv x).tx.size<=281474976710656:=by rw[etx,ndA_eq hxl];exact HTX.out _ (List.getElem_mem hxl)
  have hows:=rdL_ow l n (pre.map (·.val)) rd0 (λk hk=>by obtain⟨y,_,rfl⟩:=List.mem_map.1 hk;exact y.2) (by show(-1:Int) <= -1/\(-1:Int)<=(n:Int);omega)
  have hxz:((x:Nat):Int)<(n:Int):=by have:=x.2;omega
  have hxn:(x:Nat)<n:=x.2
  have hxw:(Lit.int .i64 ((x:Nat):Int)).wf=true:=WalkArith.wf_i64 (by omega)
  have HO:=hid (show∀o,o=(rdL l (pre.map (·.val))).ow->o=(rdL l (pre.map (·.val))).ow from λ_ h=>h)
  rw[hsS]
  dsimp only[rdFr,NV.v]
  generalize nv x=z at *
  obtain⟨kd,nn,pl,tx,K,m,cc⟩:=z
  dsimp only at hx ekd etx htx
  have EK:=hid ekd
  have ET:=hid etx
  have hR0:=hid hR
  obtain⟨ow,how⟩:∃ow,ow=(rdL l (pre.map (·.val))).ow:=⟨_,rfl⟩
  have HOW:=hid how
  have howf:(Lit.int .i64 ow).wf=true:=by
   have:ow=((pre.map (·.val)).foldl (rdS l) rd0).ow:=how
   exact WalkArith.wf_i64 (by omega)
  rw[<- how]at hR
  have hg1:=hR.g
  have hg2:=hR.gB
  clear ekd etx hows how hR0 HO
  have n0:=(hx.cell 0).trans rfl
  by_cases h2:kd=2
  ·subst h2
   have ho:owS l (rdL l (pre.map (·.val))).ow x = -1:=by unfold owS;rw[<- EK.out];rfl
   have HH:=hid (And.intro (rdS_a ho) (And.intro (rdS_dc1 (s:=rdL l (pre.map (·.val))) EK.out ET.out ho (by decide)) (rdS_pc0 (s:=rdL l (pre.map (·.val))) EK.out (by decide))))
   clear ho
   have s00:=(hR.s.cell 0).trans rfl
   have fs0:=hR.s.frozen 0
   obtain⟨X1,hX1⟩:∃X1,X.setCell ⟨G+1,0,none⟩ (.int .i64 (-1))=X1:=⟨_,rfl⟩
   have R1:=hR.setw (-1)
   rw[hX1]at R1
   have hx1:=hx.far (p:=⟨G+1,0,none⟩) (by show Bn≠G+1;omega) (.int .i64 (-1))
   rw[hX1]at hx1
   have hzX1:G+1+1+1<=X1.heap.size:=by rw[<- hX1];rw[World.size_setCell];exact hsz
   have p11:=(R1.p.cell 1).trans rfl
   have s01:=(R1.s.cell 0).trans rfl
   have oc1:=R1.o.cell hxn
   have fo1:=R1.o.frozen (x:Nat)
   obtain⟨X2,hX2⟩:∃X2,X1.setCell ⟨G,(x:Nat),none⟩ (.int .i64 (-1))=X2:=⟨_,rfl⟩
   have R2:=R1.seto x (-1)
   rw[hX2]at R2
   have hx2:=hx1.far (p:=⟨G,(x:Nat),none⟩) (by show Bn≠G;omega) (.int .i64 (-1))
   rw[hX2]at hx2
   have hzX2:G+1+1+1<=X2.heap.size:=by rw[<- hX2];rw[World.size_setCell];exact hzX1
   have p22:=(R2.p.cell 2).trans rfl
   have s02:=(R2.s.cell 0).trans rfl
   have n02:=(hx2.cell 0).trans rfl
   have n32:=(hx2.cell 3).trans rfl
   obtain⟨Y,hrun,RY,hzY⟩:=R2.putd (by omega) (by omega) (-1) tx (by decide) htx ((x:Nat):Int) hxw
   have HRY:=hid RY
   have hzY2:G+1+1+1<=Y.heap.size:=by omega
   have HD:=hid (isDecl_any 2 X2)
   clear R1 R2 RY hR hx hx1 hx2
   gi_wp2_with (refine⟨trivial,?_⟩;gi_at_call 105;refine((callsIn_wide.2 (HD.out)).inRound l').mono ?_;rintro e w' ⟨rfl,rfl⟩)
   gi_wp2
   exact rdI_fin HRY.out (by omega) (by omega) hzY2 HH.out.1.1.symm HH.out.1.2 HH.out.2.1 HH.out.2.2
  by_cases h3:kd=3
  ·subst h3
   have ho:owS l (rdL l (pre.map (·.val))).ow x=((x:Nat):Int):=by unfold owS;rw[<- EK.out];rfl
   have HH:=hid (And.intro (rdS_a ho) (And.intro (rdS_dc0 (s:=rdL l (pre.map (·.val))) EK.out (by decide)) (rdS_pc1 (s:=rdL l (pre.map (·.val))) EK.out ET.out)))
   clear ho
   have s00:=(hR.s.cell 0).trans rfl
   have fs0:=hR.s.frozen 0
   obtain⟨X1,hX1⟩:∃X1,X.setCell ⟨G+1,0,none⟩ (.int .i64 ((x:Nat):Int))=X1:=⟨_,rfl⟩
   have R1:=hR.setw ((x:Nat):Int)
   rw[hX1]at R1
   have hx1:=hx.far (p:=⟨G+1,0,none⟩) (by show Bn≠G+1;omega) (.int .i64 ((x:Nat):Int))
   rw[hX1]at hx1
   have hzX1:G+1+1+1<=X1.heap.size:=by rw[<- hX1];rw[World.size_setCell];exact hsz
   have p31:=(R1.p.cell 3).trans rfl
   have n01:=(hx1.cell 0).trans rfl
   have n31:=(hx1.cell 3).trans rfl
   obtain⟨Y,hrun,RY,hgY⟩:=R1.putp (by omega) (by omega) tx htx ((x:Nat):Int) hxw
   have hxY:=hx1.grown hgY (λe=>by have:=Option.some.inj e;omega)
   have hzY:=hgY.size
   have p1Y:=(RY.p.cell 1).trans rfl
   have s0Y:=(RY.s.cell 0).trans rfl
   have ocY:=RY.o.cell hxn
   have foY:=RY.o.frozen (x:Nat)
   obtain⟨X2,hX2⟩:∃X2,Y.setCell ⟨G,(x:Nat),none⟩ (.int .i64 ((x:Nat):Int))=X2:=⟨_,rfl⟩
   have R2:=RY.seto x ((x:Nat):Int)
   rw[hX2]at R2
   have hx2:=hxY.far (p:=⟨G,(x:Nat),none⟩) (by show Bn≠G;omega) (.int .i64 ((x:Nat):Int))
   rw[hX2]at hx2
   have hzX2:G+1+1+1<=X2.heap.size:=by rw[<- hX2];rw[World.size_setCell];omega
   have n02:=(hx2.cell 0).trans rfl
   have HRY:=hid R2
   have HD:=hid (isDecl_any 3 X2)
   clear R1 R2 RY hR hx hx1 hx2 hxY hgY
   gi_wp2_with (refine⟨trivial,?_⟩;gi_at_call 105;refine((callsIn_wide.2 (HD.out)).inRound l').mono ?_;rintro e w' ⟨rfl,rfl⟩)
   gi_wp2
   exact rdI_fin HRY.out (by omega) (by omega) hzX2 HH.out.1.1.symm HH.out.1.2 HH.out.2.1 HH.out.2.2
  have e2:(kd==2)=false:=beq_eq_false_iff_ne.2 h2
  have e3:(kd==3)=false:=beq_eq_false_iff_ne.2 h3
  by_cases hdec:decB kd=true
  ·have ho:owS l (rdL l (pre.map (·.val))).ow x=ow:=by unfold owS;rw[<- EK.out];rw[if_neg h2,if_neg h3];exact HOW.out.symm
   have HH:=hid (And.intro (rdS_a ho) (And.intro (rdS_dc1 (s:=rdL l (pre.map (·.val))) EK.out ET.out ho hdec) (rdS_pc0 (s:=rdL l (pre.map (·.val))) EK.out h3)))
   clear ho
   have p10:=(hR.p.cell 1).trans rfl
   have s00:=(hR.s.cell 0).trans rfl
   have oc0:=hR.o.cell hxn
   have fo0:=hR.o.frozen (x:Nat)
   obtain⟨X2,hX2⟩:∃X2,X.setCell ⟨G,(x:Nat),none⟩ (.int .i64 ow)=X2:=⟨_,rfl⟩
   have R2:=hR.seto x ow
   rw[hX2]at R2
   have hx2:=hx.far (p:=⟨G,(x:Nat),none⟩) (by show Bn≠G;omega) (.int .i64 ow)
   rw[hX2]at hx2
   have hzX2:G+1+1+1<=X2.heap.size:=by rw[<- hX2];rw[World.size_setCell];exact hsz
   have p22:=(R2.p.cell 2).trans rfl
   have s02:=(R2.s.cell 0).trans rfl
   have n02:=(hx2.cell 0).trans rfl
   have n32:=(hx2.cell 3).trans rfl
   obtain⟨Y,hrun,RY,hzY⟩:=R2.putd (by omega) (by omega) ow tx howf htx ((x:Nat):Int) hxw
   have HRY:=hid RY
   have hzY2:G+1+1+1<=Y.heap.size:=by omega
   have HD:=hid (isDecl_any kd X2)
   rw[hdec]at HD
   clear R2 RY hR hx hx2 h2 h3 hdec
   gi_wp2_with (refine⟨trivial,?_⟩;gi_at_call 105;refine((callsIn_wide.2 (HD.out)).inRound l').mono ?_;rintro e w' ⟨rfl,rfl⟩)
   gi_wp2
   exact rdI_fin HRY.out (by omega) (by omega) hzY2 HH.out.1.1.symm HH.out.1.2 HH.out.2.1 HH.out.2.2
  ·have hdec:decB kd=false:=by simpa using hdec
   have ho:owS l (rdL l (pre.map (·.val))).ow x=ow:=by unfold owS;rw[<- EK.out];rw[if_neg h2,if_neg h3];exact HOW.out.symm
   have HH:=hid (And.intro (rdS_a ho) (And.intro (rdS_dc0 (s:=rdL l (pre.map (·.val))) EK.out hdec) (rdS_pc0 (s:=rdL l (pre.map (·.val))) EK.out h3)))
   clear ho
   have p10:=(hR.p.cell 1).trans rfl
   have s00:=(hR.s.cell 0).trans rfl
   have oc0:=hR.o.cell hxn
   have fo0:=hR.o.frozen (x:Nat)
   obtain⟨X2,hX2⟩:∃X2,X.setCell ⟨G,(x:Nat),none⟩ (.int .i64 ow)=X2:=⟨_,rfl⟩
   have R2:=hR.seto x ow
   rw[hX2]at R2
   have hx2:=hx.far (p:=⟨G,(x:Nat),none⟩) (by show Bn≠G;omega) (.int .i64 ow)
   rw[hX2]at hx2
   have hzX2:G+1+1+1<=X2.heap.size:=by rw[<- hX2];rw[World.size_setCell];exact hsz
   have n02:=(hx2.cell 0).trans rfl
   have HRY:=hid R2
   have HD:=hid (isDecl_any kd X2)
   rw[hdec]at HD
   clear R2 hR hx hx2 h2 h3 hdec
   gi_wp2_with (refine⟨trivial,?_⟩;gi_at_call 105;refine((callsIn_wide.2 (HD.out)).inRound l').mono ?_;rintro e w' ⟨rfl,rfl⟩)
   gi_wp2
   exact rdI_fin HRY.out (by omega) (by omega) hzX2 HH.out.1.1.symm HH.out.1.2 HH.out.2.1 HH.out.2.2
 case done=>
  rintro D ys X hD rfl ⟨cd,cp,hcd,hcp,hR,hsz⟩ hK
  have p0:=(hR.p.cell 0).trans rfl
  have p1:=(hR.p.cell 1).trans rfl
  have p2:=(hR.p.cell 2).trans rfl
  have p3:=(hR.p.cell 3).trans rfl
  have z0:=(hR.z.cell 0).trans rfl
  have z1:=(hR.z.cell 1).trans rfl
  have z2:=(hR.z.cell 2).trans rfl
  have z3:=(hR.z.cell 3).trans rfl
  have f0:=hR.z.frozen 0
  have f1:=hR.z.frozen 1
  have f2:=hR.z.frozen 2
  have f3:=hR.z.frozen 3
  have HR:=hid hR
  have HK:=hid hK
  clear hR hK
  gi_wp2
  obtain⟨XE,hXE⟩:∃XE,((((X.setCell ⟨w.heap.size+1,0,none⟩ (.slice A n c)).setCell ⟨w.heap.size+1,1,none⟩ (.slice (some ⟨G,0,none⟩) n n)).setCell ⟨w.heap.size+1,2,none⟩ (.map (some (w.heap.size+1+1)))).setCell ⟨w.heap.size+1,3,none⟩ (.map (some (w.heap.size+1+1+1))))=XE:=⟨_,rfl⟩
  rw[hXE]
  have hg1:=HR.out.g
  have hZE:Bx XE (w.heap.size+1) 87 [.slice A n c,.slice (some ⟨G,0,none⟩) n n,.map (some (w.heap.size+1+1)),.map (some (w.heap.size+1+1+1))]:=by
   rw[<- hXE];exact(((HR.out.z.set_ 0 _).set_ 1 _).set_ 2 _).set_ 3 _
  have hkE:∀k,k≠w.heap.size+1->XE.heap[k]?=X.heap[k]?:=λk hk=>by
   rw[<- hXE,heap_setCell_other _ _ _ _ hk,heap_setCell_other _ _ _ _ hk,heap_setCell_other _ _ _ _ hk,heap_setCell_other _ _ _ _ hk]
  have hbE:Below w.heap.size w XE:=by
   rw[<- hXE]
   exact(((HR.out.b.setCell (p:=⟨w.heap.size+1,0,none⟩) (Nat.le_succ _) _).setCell (p:=⟨w.heap.size+1,1,none⟩) (Nat.le_succ _) _).setCell (p:=⟨w.heap.size+1,2,none⟩) (Nat.le_succ _) _).setCell (p:=⟨w.heap.size+1,3,none⟩) (Nat.le_succ _) _
  have hdn:=rdL_down l (l.length-0) 0 rfl (Nat.zero_le _)
  have hnn:(Tr.seqF n 0).length=n:=by rw[Tr.seqF_len,Nat.sub_zero]
  clear p0 p1 p2 p3 z0 z1 z2 z3 f0 f1 f2 f3 hXE
  rw[<- HL.out]at hdn
  refine Tr.leave_marks (lo:=G+1+1+1) _ (D+1) _ ⟨D,rfl,by omega,by omega,(hkE D (by omega)).trans HK.out,trivial⟩ λw' hb hc =>?_
  have hZ:=hZE.below hb (by omega)
  have c0:=(hZ.cell 0).trans rfl
  have c1:=(hZ.cell 1).trans rfl
  have c2:=(hZ.cell 2).trans rfl
  have c3:=(hZ.cell 3).trans rfl
  have hk2:∀k,k<G+1+1->k≠w.heap.size+1->w'.heap[k]?=X.heap[k]?:=λk h1 h2=>(hb.block k (by omega)).trans (hkE k h2)
  have hO:Ib w' G n _:=HR.out.o.same (hk2 G (by omega) (by omega))
  refine⟨PrV A n c (some ⟨G,0,none⟩) n (w.heap.size+1+1) (w.heap.size+1+1+1),by simp[results,Tryz.f68,go_sem,c0,c1,c2,c3,PrV],HPS.out _ _ ⟨n,c,some ⟨G,0,none⟩,n,_,_,rfl,HL.out,hbE.trans (hb.mono (by omega)),λh0=>⟨G,0,rfl,(Array.getElem?_eq_some_iff.1 hO).1,λj hj =>?_⟩,?_,?_⟩⟩
  ·have hj2:j<n:=by rw[HL.out];simpa using hj
   have:=hO.cell hj2
   rw[Nat.zero_add,this,List.getElem_map,List.getElem_range]
   exact congrArg (λz=>some (Value.int .i64 z)) (hdn.2.1 j (Nat.zero_le _) hj2)
  ·exact((HR.out.d.same (hk2 _ (by omega) (by omega))).congr (λx kl _=>hdn.2.2.1 x)).mono (by omega)
  ·exact((HR.out.q.same (hk2 _ (by omega) (by omega))).congr (λx kl _=>hdn.2.2.2 x)).mono (by omega)
set_option maxRecDepth 100000 in
set_option maxHeartbeats 3000000 in
theorem read_no (A:Option Addr)(c n:Nat)(r:Int)(w:World)(HRT:∀w',Below w.heap.size w w'->Calls Tryz.prog 103 #[.agg #[.slice A n c,.int .i64 r]] w' (BPost false w'))(R:Ending->World->Prop)(HPS:RowKit.Hid (∀e w',RdPost [] none w e w'->R e w')):CallsIn Fence.wide 3 Tryz.prog 68 #[.agg #[.slice A n c,.int .i64 r]] w R:=by
 have HST:=hid (rd1_start A n c r w)
 refine callsIn_of_wp_marks Tryz.func68 rfl trivial ?_ rfl
 simp only[Tryz.ntmps68,List.size_toArray,List.length_cons,List.length_nil,Nat.reduceAdd,Nat.reduceSub,Array.replicate_succ,Array.replicate_zero,List.push_toArray,List.append_toArray,List.nil_append,List.cons_append]
 have hmm :=@run_makeMap Tryz.prog
 gi_wp2_with (refine⟨trivial,?_⟩;gi_at_call 103;refine(callsIn_wide.2 (HRT _ (by exact HST.out.b))).mono ?_)
 rintro e w1 ⟨rfl,hb1⟩
 have H1:=hid (HST.out.below hb1)
 clear hb1 HST hmm
 have p0:=(H1.out.p.cell 0).trans rfl
 have p1:=(H1.out.p.cell 1).trans rfl
 have p2:=(H1.out.p.cell 2).trans rfl
 have p3:=(H1.out.p.cell 3).trans rfl
 have hz:Bx w1 (w.heap.size+1) 87 [.slice none 0 0,.slice none 0 0,.map none,.map none]:=H1.out.z
 have HZ:=hid hz
 have z0:=(hz.cell 0).trans rfl
 have z1:=(hz.cell 1).trans rfl
 have z2:=(hz.cell 2).trans rfl
 have z3:=(hz.cell 3).trans rfl
 have f0:=hz.frozen 0
 have f1:=hz.frozen 1
 have f2:=hz.frozen 2
 have f3:=hz.frozen 3
 clear hz
 gi_wp2
 obtain⟨XE,hXE⟩:∃XE,((((w1.setCell ⟨w.heap.size+1,0,none⟩ (.slice none 0 0)).setCell ⟨w.heap.size+1,1,none⟩ (.slice none 0 0)).setCell ⟨w.heap.size+1,2,none⟩ (.map (some (w.heap.size+1+1)))).setCell ⟨w.heap.size+1,3,none⟩ (.map (some (w.heap.size+1+1+1))))=XE:=⟨_,rfl⟩
 rw[hXE]
 have hsz:=H1.out.sz
 have hZE:Bx XE (w.heap.size+1) 87 [.slice none 0 0,.slice none 0 0,.map (some (w.heap.size+1+1)),.map (some (w.heap.size+1+1+1))]:=by
  rw[<- hXE];exact(((HZ.out.set_ 0 _).set_ 1 _).set_ 2 _).set_ 3 _
 have hkE:∀k,k≠w.heap.size+1->XE.heap[k]?=w1.heap[k]?:=λk hk=>by
  rw[<- hXE,heap_setCell_other _ _ _ _ hk,heap_setCell_other _ _ _ _ hk,heap_setCell_other _ _ _ _ hk,heap_setCell_other _ _ _ _ hk]
 have hbE:Below w.heap.size w XE:=by
  rw[<- hXE]
  exact(((H1.out.b.setCell (p:=⟨w.heap.size+1,0,none⟩) (Nat.le_succ _) _).setCell (p:=⟨w.heap.size+1,1,none⟩) (Nat.le_succ _) _).setCell (p:=⟨w.heap.size+1,2,none⟩) (Nat.le_succ _) _).setCell (p:=⟨w.heap.size+1,3,none⟩) (Nat.le_succ _) _
 clear p0 p1 p2 p3 z0 z1 z2 z3 f0 f1 f2 f3 hXE
 refine Tr.leave_marks (lo:=XE.heap.size) _ XE.heap.size _ trivial λw' hb hc =>?_
 have hZ:=hZE.below hb hZE.lt
 have c0:=(hZ.cell 0).trans rfl
 have c1:=(hZ.cell 1).trans rfl
 have c2:=(hZ.cell 2).trans rfl
 have c3:=(hZ.cell 3).trans rfl
 have hd:=(H1.out.d.same (hkE _ (by omega))).below hb (H1.out.d.same (hkE _ (by omega))).lt
 have hq:=(H1.out.q.same (hkE _ (by omega))).below hb (H1.out.q.same (hkE _ (by omega))).lt
 exact⟨PrV none 0 0 none 0 (w.heap.size+1+1) (w.heap.size+1+1+1),by simp[results,Tryz.f68,go_sem,c0,c1,c2,c3,PrV],HPS.out _ _ ⟨0,0,none,0,_,_,rfl,rfl,hbE.trans (hb.mono hbE.size),λh0=>absurd h0 (by simp),(hd.congr (λx kl _=>(dclF_end [] (Nat.le_refl _) x).symm)).mono (by omega),(hq.congr (λx kl _=>(prcF_end [] (Nat.le_refl _) x).symm)).mono (by omega)⟩⟩
end Go.Proofs.YtedkgofehbecmaaGreatDoor
