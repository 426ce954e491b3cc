/- PROVED here: parts N42 of the claim. No condition but those in each theorem's own head. -/
import Derived.Test.YtedkgofehbecmaaGreatDoorU39
namespace Go.Proofs.YtedkgofehbecmaaGreatDoor
open Go.Lib (hid)
open Go Go.RowKit
open Tr (Bx heap1 bt Nds Ints BPost IPost rgB Ib mkI make22)
theorem own56:Fl.Own 56:=⟨_,Tryz.func56,by kernel_rfl,by kernel_rfl⟩
namespace Fl
section
variable {ops:Array Oper} {Q:Exit->Act->World->Prop} {S:World->Prop} {fuel:Nat} {listed:Array Bool} {a:Act} {w:World} {o:Oper} {K:Act->World->Prop}
theorem h_allK {L:List Nat}(hr:Region.ready .any ops listed=L)(hne:L≠[])(h:∀i ∈ L,∃o,ops[i]?=some o/\Region.wanted o (yielded ops a.tmps)=true/\o.wp Tryz.prog a w (λa' w'=>S w'/\wpAnyH Tryz.prog .any ops Q S fuel (listed.setIfInBounds i true) a' w') Q):wpAnyH Tryz.prog .any ops Q S (fuel+1) listed a w:=
  wpAnyH_all hr hne λj hj=>by
    obtain⟨o,h1,h2,h3⟩:=h j hj
    unfold wpOp
    simp only[h1,h2,if_true]
    exact .inl h3
theorem h_twoK (i j:Nat)(oi oj:Oper)(hi:ops[i]?=some oi)(hj:ops[j]?=some oj)(hr:Region.ready .any ops listed=[i,j])(wi:Region.wanted oi (yielded ops a.tmps)=true)(wj:Region.wanted oj (yielded ops a.tmps)=true)
    (h1:∀K':Act->World->Prop,Shut (∀a w,S w->(S w->wpAnyH Tryz.prog .any ops Q S fuel (listed.setIfInBounds i true) a w)->K' a w)->oi.wp Tryz.prog a w K' Q) (h2:∀K':Act->World->Prop,Shut (∀a w,S w->(S w->wpAnyH Tryz.prog .any ops Q S fuel (listed.setIfInBounds j true) a w)->K' a w)->oj.wp Tryz.prog a w K' Q):wpAnyH Tryz.prog .any ops Q S (fuel+1) listed a w:=
  h_allK hr (by simp) λk hk=>by
    have:k=i\/k=j:=by simpa using hk
    rcases this with rfl |rfl
    · exact⟨oi,hi,wi,h1 _ λ_ _ hS hW=>⟨hS,hW hS⟩⟩
    · exact⟨oj,hj,wj,h2 _ λ_ _ hS hW=>⟨hS,hW hS⟩⟩
theorem h_threeK (i j k:Nat)(oi oj ok:Oper)(hi:ops[i]?=some oi)(hj:ops[j]?=some oj)(hk:ops[k]?=some ok)(hr:Region.ready .any ops listed=[i,j,k])(wi:Region.wanted oi (yielded ops a.tmps)=true)(wj:Region.wanted oj (yielded ops a.tmps)=true)(wk:Region.wanted ok (yielded ops a.tmps)=true)
    (h1:∀K':Act->World->Prop,Shut (∀a w,S w->(S w->wpAnyH Tryz.prog .any ops Q S fuel (listed.setIfInBounds i true) a w)->K' a w)->oi.wp Tryz.prog a w K' Q) (h2:∀K':Act->World->Prop,Shut (∀a w,S w->(S w->wpAnyH Tryz.prog .any ops Q S fuel (listed.setIfInBounds j true) a w)->K' a w)->oj.wp Tryz.prog a w K' Q) (h3:∀K':Act->World->Prop,Shut (∀a w,S w->(S w->wpAnyH Tryz.prog .any ops Q S fuel (listed.setIfInBounds k true) a w)->K' a w)->ok.wp Tryz.prog a w K' Q):wpAnyH Tryz.prog .any ops Q S (fuel+1) listed a w:=
  h_allK hr (by simp) λm hm=>by
    have:m=i\/m=j\/m=k:=by simpa using hm
    rcases this with rfl |rfl |rfl
    · exact⟨oi,hi,wi,h1 _ λ_ _ hS hW=>⟨hS,hW hS⟩⟩
    · exact⟨oj,hj,wj,h2 _ λ_ _ hS hW=>⟨hS,hW hS⟩⟩
    · exact⟨ok,hk,wk,h3 _ λ_ _ hS hW=>⟨hS,hW hS⟩⟩
theorem call_wpK {F:Nat}{t:Tmp}{xs:Array Operand}{ts:Array TypeId}{args:Array Value}{R:Ending->World->Prop}(hF:Own F)(ho:o.op = .call { callee :=.value (.func F),args:=xs,argTypes:=ts })(hd:o.dst=some t)(ha':(xs.toList.map a.eval).toArray=args)(hc:Calls Tryz.prog F args w R)
    (h:∀e w',R e w'->∃v,e = .returned v/\K (a.put (some t) v) w'):o.wp Tryz.prog a w K Q:=by
  have ha:xs.map a.eval=args:=by rw[<- ha'];exact Array.ext' (by rw[Array.toList_map])
  unfold Oper.wp execOp
  have e:a.eval (.func F) = .func (.func F) #[] #[]:=rfl
  have e2:(#[]++args:Array Value) ++ #[]=args:=by simp
  simp only[ho,resolve,e,ha,Deferred.ofValue,invoke,Sem.run_bind,Sem.run_pure,Result.andThen_ok]
  rw[e2,run_own hF]
  exact hc.mono λe w' hR=>by
    obtain⟨v,he,hk⟩:=h e w' hR
    subst he;rw[hd];exact hk
end
end Fl
theorem bdG_cons (l:List Tr.Nd)(R:Nat->Bool)(k:Int)(ks:List Int)(first:Nat)(s:BdS):bdG l R (k :: ks) first s=bdG l R ks (k.toNat+1) (if (Tr.nth l k.toNat).kd=3 then ⟨(prG l R (s.P.length:Int) s.G s.sp first k.toNat).1,s.P++[k],(prG l R (s.P.length:Int) s.G s.sp first k.toNat).2⟩ else s):=rfl
theorem GNodes.slice {w:World}{X:Nat->Prop}{base:Nat}{V:Value}{G:List Gn}(h:GNodes w X base V G):∃VA vc,V = .slice VA G.length vc:=by
  obtain⟨xs,ho,_⟩:=h
  exact own_slice ho
def BdP (l:List Tr.Nd)(r:Int)(n:Nat)(w:World)(e:Ending)(w':World):Prop:=∃V U base,e = .returned (.agg #[V,U])/\Below w.heap.size w w'/\w.heap.size<=base/\GNodes w' (λ_=>False) base V (grG l (rsF l r n)).G/\w'.ownsRow base 3 1 U (grG l (rsF l r n)).P.length ((grG l (rsF l r n)).P.map (Value.int .i64))
theorem bld_new {w0 W:World}{A:Option Addr}{n c g rb sb cR cS:Nat}{R:Nat->Bool}(hb:Below w0.heap.size w0 W)(hB:Bx W g 116 [.slice A n c,.slice (some ⟨rb,0,none⟩) n cR,.slice (some ⟨sb,0,none⟩) n cS,.slice none 0 0,.slice none 0 0])(hR:Bb W rb n R)(hS:Ib W sb n (λ_=>0))(hg:w0.heap.size<=g)(hs:w0.heap.size<=sb):BuW w0 A n c g rb sb cR cS W.heap.size R (λ_=>0) (.slice none 0 0) (.slice none 0 0) [] [] W:=
  ⟨hb,hB,hR,hS,⟨[],⟨rfl,.inl ⟨rfl,rfl⟩⟩,λj hj=>absurd hj (Nat.not_lt_zero _)⟩,⟨rfl,.inl ⟨rfl,rfl⟩⟩,⟨hg,hs,hB.lt,hR.lt,hS.lt,Nat.le_refl _⟩,
   ⟨λe=>by subst e;have:=(show W.heap[rb]?=_ from hR).symm.trans hB;simp at this,λe=>by subst e;have:=(show W.heap[sb]?=_ from hS).symm.trans hB;simp at this,λe=>by subst e;have:=(show W.heap[rb]?=_ from hR).symm.trans hS;simp at this⟩⟩
theorem bld_leaf {w0 V:World}{A:Option Addr}{n c g rb sb:Nat}{R:Nat->Bool}{T:World->Prop}(hS:Below w0.heap.size w0 V)(hg:Bx V g 116 [.slice none 0 0,.slice none 0 0,.slice none 0 0,.slice none 0 0,.slice none 0 0])(hr:Bb V rb n R)(hs:Ib V sb n (λ_=>0))(hgz:w0.heap.size<=g)(hsz:w0.heap.size<=sb)
    (h:∀W',Below w0.heap.size w0 W'->BuW w0 A n c g rb sb n n W'.heap.size R (λ_=>0) (.slice none 0 0) (.slice none 0 0) [] [] W'->T W'):T (((((V.setCell ⟨g,0,none⟩ (.slice A n c)).setCell ⟨g,1,none⟩ (.slice (some ⟨rb,0,none⟩) n n)).setCell ⟨g,2,none⟩ (.slice (some ⟨sb,0,none⟩) n n)).setCell ⟨g,3,none⟩ (.slice none 0 0)).setCell ⟨g,4,none⟩ (.slice none 0 0)):=by
  have n1:rb≠g:=λe=>by subst e;have:=(show V.heap[rb]?=_ from hr).symm.trans hg;simp at this
  have n2:sb≠g:=λe=>by subst e;have:=(show V.heap[sb]?=_ from hs).symm.trans hg;simp at this
  have hB:=((((hg.set_ 0 (.slice A n c)).set_ 1 (.slice (some ⟨rb,0,none⟩) n n)).set_ 2 (.slice (some ⟨sb,0,none⟩) n n)).set_ 3 (.slice none 0 0)).set_ 4 (.slice none 0 0)
  have hb:=((((hS.setCell (p:=⟨g,0,none⟩) hgz (.slice A n c)).setCell (p:=⟨g,1,none⟩) hgz (.slice (some ⟨rb,0,none⟩) n n)).setCell (p:=⟨g,2,none⟩) hgz (.slice (some ⟨sb,0,none⟩) n n)).setCell (p:=⟨g,3,none⟩) hgz (.slice none 0 0)).setCell (p:=⟨g,4,none⟩) hgz (.slice none 0 0)
  have hR:=((((hr.far (p:=⟨g,0,none⟩) n1 (.slice A n c)).far (p:=⟨g,1,none⟩) n1 (.slice (some ⟨rb,0,none⟩) n n)).far (p:=⟨g,2,none⟩) n1 (.slice (some ⟨sb,0,none⟩) n n)).far (p:=⟨g,3,none⟩) n1 (.slice none 0 0)).far (p:=⟨g,4,none⟩) n1 (.slice none 0 0)
  have hI:=((((hs.far (p:=⟨g,0,none⟩) n2 (.slice A n c)).far (p:=⟨g,1,none⟩) n2 (.slice (some ⟨rb,0,none⟩) n n)).far (p:=⟨g,2,none⟩) n2 (.slice (some ⟨sb,0,none⟩) n n)).far (p:=⟨g,3,none⟩) n2 (.slice none 0 0)).far (p:=⟨g,4,none⟩) n2 (.slice none 0 0)
  simp only[List.set_cons_zero,List.set_cons_succ]at hB
  exact h _ hb (bld_new hb hB hR hI hgz hsz)
section
variable {w:World} {l:List Tr.Nd} {A:Option Addr} {n:Nat}
set_option maxRecDepth 100000 in
set_option maxHeartbeats 8000000 in
theorem build_any (h:TT w A n l)(c:Nat)(r:Int)(hr:rgB l r=true):Calls Tryz.prog 50 #[.agg #[.slice A n c,.int .i64 r]] w (BdP l r n w):=by
  obtain⟨⟨b,hRt⟩,h4,hrr⟩:=rtn_of hr
  have HL:=hid h.len
  have hn4:n<=4000:=by rw[h.len];exact h4
  have HRT:=hid hRt
  have HRR:=hid hrr
  have HN4:=hid h4
  obtain⟨W0,hW0⟩:∃W0,(w.alloc (.cells #[.slice A n c,.int .i64 r] 24)).alloc (.cells #[.slice none 0 0,.slice none 0 0] 30)=W0:=⟨_,rfl⟩
  have hB0:Below w.heap.size w W0:=by rw[<- hW0];exact((Below.refl _ w).alloc (Nat.le_refl _) _).alloc (by simp) _
  have HB0:=hid hB0
  have HX0:=hid (show Bx W0 w.heap.size 24 [.slice A n c,.int .i64 r]by rw[<- hW0];exact(Bx.new w 24 _).alloc _)
  have HG0:=hid (show Bx W0 (w.heap.size+1) 30 [.slice none 0 0,.slice none 0 0] by
    rw[<- hW0];have:=Bx.new (w.alloc (.cells #[.slice A n c,.int .i64 r] 24)) 30 [.slice none 0 0,.slice none 0 0];rw[World.size_alloc]at this;exact this)
  have HT:=hid (h.below hB0)
  have HR:=hid (λ(W:World) (q:Below W0.heap.size W0 W)=>raising_any ((h.below hB0).below q) c r hr)
  have hmk:=λw'=>make22 n (by omega) w'
  clear h hRt hrr h4 hB0 hr
  go_enter Tryz.func50,Tryz.ntmps50
  go_upto_region 1 with(fail)
  clear hW0
  have l0:∀w',Below W0.heap.size W0 w'->w'.cell? ⟨w.heap.size,0,none⟩=some (.slice A n c):=λw' q=>((HX0.out.below q HX0.out.lt).cell 0).trans rfl
  have l1:∀w',Below W0.heap.size W0 w'->w'.cell? ⟨w.heap.size,1,none⟩=some (.int .i64 r):=λw' q=>((HX0.out.below q HX0.out.lt).cell 1).trans rfl
  go_cut [3] (λx wx=>∃g rb sb:Nat,x = .pointer (some ⟨g,0,none⟩)/\BuW W0 A n c g rb sb n n wx.heap.size (rsF l r n) (λ_=>0) (.slice none 0 0) (.slice none 0 0) [] [] wx)
  case first=>
    refine wp_region_held (S:=(λW'=>Below W0.heap.size W0 W')) (by kernel_rfl) ?_
    have hS:Below W0.heap.size W0 ({ W0 with drawn:=W0.drawn+1 }:World):=(Below.refl _ _).drew
    generalize ({ W0 with drawn:=W0.drawn+1 }:World)=V0 at *
    refine Fl.hpu 0 (o:=({ dst:=some 7,op:=Op.fieldAddr 24 (Operand.tmp 1) 0,type:=0,pos := "build.go:23",after := #[],guard:=none }:Oper)) (.pointer (some ⟨w.heap.size,0,none⟩)) (by kernel_rfl) rfl rfl (λ_ _ _ h=>h) rfl (by intro w' hSw;have e0:=l0 _ hSw;have e1:=l1 _ hSw;clear hSw;go_simp) hS ?_
    try simp only[Fl.ap]
    refine Fl.hpu 1 (o:=({ dst:=some 8,op:=Op.load 22 (Operand.tmp 7),type:=22,pos := "build.go:23",after := #[{ on:=0,ground:=Ground.data }],guard:=none }:Oper)) (.slice A n c) (by kernel_rfl) rfl rfl (λ_ _ _ h=>h) rfl (by intro w' hSw;have e0:=l0 _ hSw;have e1:=l1 _ hSw;clear hSw;go_simp) hS ?_
    try simp only[Fl.ap]
    refine Fl.hpu 2 (o:=({ dst:=some 9,op:=Op.load 24 (Operand.tmp 1),type:=24,pos := "build.go:23",after := #[],guard:=none }:Oper)) (.agg #[.slice A n c,.int .i64 r]) (by kernel_rfl) rfl rfl (λ_ _ _ h=>h) rfl (by intro w' hSw;have e0:=l0 _ hSw;have e1:=l1 _ hSw;clear hSw;go_simp) hS ?_
    try simp only[Fl.ap]
    refine Fl.hpu 4 (o:=({ dst:=some 11,op:=Op.fieldAddr 24 (Operand.tmp 1) 0,type:=0,pos := "build.go:23",after := #[],guard:=none }:Oper)) (.pointer (some ⟨w.heap.size,0,none⟩)) (by kernel_rfl) rfl rfl (λ_ _ _ h=>h) rfl (by intro w' hSw;have e0:=l0 _ hSw;have e1:=l1 _ hSw;clear hSw;go_simp) hS ?_
    try simp only[Fl.ap]
    refine Fl.hpu 5 (o:=({ dst:=some 12,op:=Op.load 22 (Operand.tmp 11),type:=22,pos := "build.go:23",after := #[{ on:=4,ground:=Ground.data }],guard:=none }:Oper)) (.slice A n c) (by kernel_rfl) rfl rfl (λ_ _ _ h=>h) rfl (by intro w' hSw;have e0:=l0 _ hSw;have e1:=l1 _ hSw;clear hSw;go_simp) hS ?_
    try simp only[Fl.ap]
    refine Fl.hpu 6 (o:=({ dst:=some 13,op:=Op.call { callee:=Callee.builtin Builtin.len,args := #[Operand.tmp 12],argTypes := #[22] },type:=3,pos := "build.go:23",after := #[{ on:=5,ground:=Ground.data }],guard:=none }:Oper)) (.int .i64 (n:Int)) (by kernel_rfl) rfl rfl (λ_ _ _ h=>h) rfl (by intro w' hSw;have e0:=l0 _ hSw;have e1:=l1 _ hSw;clear hSw;go_simp) hS ?_
    try simp only[Fl.ap]
    refine Fl.h_threeK 3 7 9 ({ dst:=some 10,op:=Op.call { callee:=Callee.value (Operand.func 56),args := #[Operand.tmp 9],argTypes := #[24] },type:=74,pos := "build.go:23",after := #[{ on:=2,ground:=Ground.data }],guard:=none }:Oper) ({ dst:=some 14,op:=Op.makeSlice 28 (Operand.tmp 13) (Operand.tmp 13),type:=28,pos := "build.go:23",after := #[{ on:=6,ground:=Ground.data },{ on:=6,ground:=Ground.data }],guard:=none }:Oper) ({ dst:=some 3,op:=Op.alloc 116,type:=0,pos := "build.go:23",after := #[],guard:=none }:Oper) rfl rfl rfl (by kernel_rfl) rfl rfl rfl (λK2 hK2 =>?_) (λK2 hK2 =>?_) (λK2 hK2 =>?_)
    · refine Fl.call_wpK own56 rfl rfl (args := #[.agg #[.slice A n c,.int .i64 r]]) rfl (HR.out _ hS) ?_
      rintro e V1 ⟨rb,rfl,hr,hge,hb⟩
      refine⟨_,rfl,?_⟩
      have hzz:W0.heap.size<=rb:=Nat.le_trans hS.size hge
      have hS:=bt hS hb
      refine hK2.out _ _ hS (λ_ =>?_)
      clear hK2 K2 hb
      try simp only[Fl.ap]
      refine Fl.h_twoK 7 9 ({ dst:=some 14,op:=Op.makeSlice 28 (Operand.tmp 13) (Operand.tmp 13),type:=28,pos := "build.go:23",after := #[{ on:=6,ground:=Ground.data },{ on:=6,ground:=Ground.data }],guard:=none }:Oper) ({ dst:=some 3,op:=Op.alloc 116,type:=0,pos := "build.go:23",after := #[],guard:=none }:Oper) rfl rfl (by kernel_rfl) rfl rfl (λK2 hK2 =>?_) (λK2 hK2 =>?_)
      · go_simp
        obtain⟨V2,hV⟩:∃V',V1.alloc (.cells (mkI n (λ_=>0)) 3)=V':=⟨_,rfl⟩
        rw[hV]
        have hb:Below V1.heap.size V1 V2:=by rw[<- hV];exact heap1 _ _
        obtain⟨sb,hsb⟩:∃sb,V1.heap.size=sb:=⟨_,rfl⟩
        have hs:Ib V2 sb n (λ_=>0):=by rw[<- hV,<- hsb];exact World.alloc_heap_new V1 _
        have hsz:W0.heap.size<=sb:=by rw[<- hsb];exact hS.size
        rw[hsb]
        clear hV
        have hr:=hr.below hb hr.lt
        have hS:=bt hS hb
        refine hK2.out _ _ hS (λ_ =>?_)
        clear hK2 K2 hb
        try simp only[Fl.ap]
        refine Fl.hpu 8 (o:=({ dst:=some 15,op:=Op.build 116 #[(0,Operand.tmp 8),(1,Operand.tmp 10),(2,Operand.tmp 14)],type:=116,pos := "build.go:23",after := #[{ on:=1,ground:=Ground.data },{ on:=3,ground:=Ground.data },{ on:=7,ground:=Ground.data }],guard:=none }:Oper)) (.agg #[.slice A n c,.slice (some ⟨rb,0,none⟩) n n,.slice (some ⟨sb,0,none⟩) n n,.slice none 0 0,.slice none 0 0]) (by kernel_rfl) rfl rfl (λ_ _ _ h=>h) rfl (by intro w' hSw;clear hSw;go_simp) hS ?_
        try simp only[Fl.ap]
        refine Fl.h_oneK 9 ({ dst:=some 3,op:=Op.alloc 116,type:=0,pos := "build.go:23",after := #[],guard:=none }:Oper) rfl (by kernel_rfl) rfl (λK2 hK2 =>?_)
        · go_simp
          obtain⟨V3,hV⟩:∃V',V2.alloc (.cells #[.slice none 0 0,.slice none 0 0,.slice none 0 0,.slice none 0 0,.slice none 0 0] 116)=V':=⟨_,rfl⟩
          rw[hV]
          have hb:Below V2.heap.size V2 V3:=by rw[<- hV];exact heap1 _ _
          obtain⟨g,hgb⟩:∃g,V2.heap.size=g:=⟨_,rfl⟩
          have hg:Bx V3 g 116 [.slice none 0 0,.slice none 0 0,.slice none 0 0,.slice none 0 0,.slice none 0 0]:=by rw[<- hV,<- hgb];exact Bx.new V2 116 _
          have hgz:W0.heap.size<=g:=by rw[<- hgb];exact hS.size
          rw[hgb]
          clear hV
          have hr:=hr.below hb hr.lt
          have hs:=hs.below hb hs.lt
          have hS:=bt hS hb
          refine hK2.out _ _ hS (λ_ =>?_)
          clear hK2 K2 hb
          try simp only[Fl.ap]
          refine Fl.h_oneK 10 ({ dst:=none,op:=Op.store 116 (Operand.tmp 3) (Operand.tmp 15),type:=0,pos := "build.go:23",after := #[{ on:=9,ground:=Ground.data },{ on:=8,ground:=Ground.data },{ on:=3,ground:=Ground.chain },{ on:=0,ground:=Ground.phase },{ on:=1,ground:=Ground.phase },{ on:=2,ground:=Ground.phase },{ on:=3,ground:=Ground.phase },{ on:=4,ground:=Ground.phase },{ on:=5,ground:=Ground.phase },{ on:=6,ground:=Ground.phase },{ on:=7,ground:=Ground.phase },{ on:=8,ground:=Ground.phase },{ on:=9,ground:=Ground.phase }],guard:=none }:Oper) rfl (by kernel_rfl) rfl (λK2 hK2 =>?_)
          have g0:=(hg.cell 0).trans rfl;have g1:=(hg.cell 1).trans rfl;have g2:=(hg.cell 2).trans rfl;have g3:=(hg.cell 3).trans rfl;have g4:=(hg.cell 4).trans rfl;have f0:=hg.frozen 0;have f1:=hg.frozen 1;have f2:=hg.frozen 2;have f3:=hg.frozen 3;have f4:=hg.frozen 4
          go_simp
          exact bld_leaf hS hg hr hs hgz hsz (λW' h1 h2=>by
            refine hK2.out _ _ h1 (λhS2 =>?_)
            clear hK2 K2 g0 g1 g2 g3 g4 f0 f1 f2 f3 f4
            try simp only[Fl.ap]
            refine wpAnyH_done (by kernel_rfl) ?_ _
            go_wp2_with fail
            go_meet
            exact⟨g,rb,sb,rfl,h2⟩)
      · go_simp
        obtain⟨V4,hV⟩:∃V',V1.alloc (.cells #[.slice none 0 0,.slice none 0 0,.slice none 0 0,.slice none 0 0,.slice none 0 0] 116)=V':=⟨_,rfl⟩
        rw[hV]
        have hb:Below V1.heap.size V1 V4:=by rw[<- hV];exact heap1 _ _
        obtain⟨g,hgb⟩:∃g,V1.heap.size=g:=⟨_,rfl⟩
        have hg:Bx V4 g 116 [.slice none 0 0,.slice none 0 0,.slice none 0 0,.slice none 0 0,.slice none 0 0]:=by rw[<- hV,<- hgb];exact Bx.new V1 116 _
        have hgz:W0.heap.size<=g:=by rw[<- hgb];exact hS.size
        rw[hgb]
        clear hV
        have hr:=hr.below hb hr.lt
        have hS:=bt hS hb
        refine hK2.out _ _ hS (λ_ =>?_)
        clear hK2 K2 hb
        try simp only[Fl.ap]
        refine Fl.h_oneK 7 ({ dst:=some 14,op:=Op.makeSlice 28 (Operand.tmp 13) (Operand.tmp 13),type:=28,pos := "build.go:23",after := #[{ on:=6,ground:=Ground.data },{ on:=6,ground:=Ground.data }],guard:=none }:Oper) rfl (by kernel_rfl) rfl (λK2 hK2 =>?_)
        · go_simp
          obtain⟨V5,hV⟩:∃V',V4.alloc (.cells (mkI n (λ_=>0)) 3)=V':=⟨_,rfl⟩
          rw[hV]
          have hb:Below V4.heap.size V4 V5:=by rw[<- hV];exact heap1 _ _
          obtain⟨sb,hsb⟩:∃sb,V4.heap.size=sb:=⟨_,rfl⟩
          have hs:Ib V5 sb n (λ_=>0):=by rw[<- hV,<- hsb];exact World.alloc_heap_new V4 _
          have hsz:W0.heap.size<=sb:=by rw[<- hsb];exact hS.size
          rw[hsb]
          clear hV
          have hr:=hr.below hb hr.lt
          have hg:=hg.below hb hg.lt
          have hS:=bt hS hb
          refine hK2.out _ _ hS (λ_ =>?_)
          clear hK2 K2 hb
          try simp only[Fl.ap]
          refine Fl.hpu 8 (o:=({ dst:=some 15,op:=Op.build 116 #[(0,Operand.tmp 8),(1,Operand.tmp 10),(2,Operand.tmp 14)],type:=116,pos := "build.go:23",after := #[{ on:=1,ground:=Ground.data },{ on:=3,ground:=Ground.data },{ on:=7,ground:=Ground.data }],guard:=none }:Oper)) (.agg #[.slice A n c,.slice (some ⟨rb,0,none⟩) n n,.slice (some ⟨sb,0,none⟩) n n,.slice none 0 0,.slice none 0 0]) (by kernel_rfl) rfl rfl (λ_ _ _ h=>h) rfl (by intro w' hSw;clear hSw;go_simp) hS ?_
          try simp only[Fl.ap]
          refine Fl.h_oneK 10 ({ dst:=none,op:=Op.store 116 (Operand.tmp 3) (Operand.tmp 15),type:=0,pos := "build.go:23",after := #[{ on:=9,ground:=Ground.data },{ on:=8,ground:=Ground.data },{ on:=3,ground:=Ground.chain },{ on:=0,ground:=Ground.phase },{ on:=1,ground:=Ground.phase },{ on:=2,ground:=Ground.phase },{ on:=3,ground:=Ground.phase },{ on:=4,ground:=Ground.phase },{ on:=5,ground:=Ground.phase },{ on:=6,ground:=Ground.phase },{ on:=7,ground:=Ground.phase },{ on:=8,ground:=Ground.phase },{ on:=9,ground:=Ground.phase }],guard:=none }:Oper) rfl (by kernel_rfl) rfl (λK2 hK2 =>?_)
          have g0:=(hg.cell 0).trans rfl;have g1:=(hg.cell 1).trans rfl;have g2:=(hg.cell 2).trans rfl;have g3:=(hg.cell 3).trans rfl;have g4:=(hg.cell 4).trans rfl;have f0:=hg.frozen 0;have f1:=hg.frozen 1;have f2:=hg.frozen 2;have f3:=hg.frozen 3;have f4:=hg.frozen 4
          go_simp
          exact bld_leaf hS hg hr hs hgz hsz (λW' h1 h2=>by
            refine hK2.out _ _ h1 (λhS2 =>?_)
            clear hK2 K2 g0 g1 g2 g3 g4 f0 f1 f2 f3 f4
            try simp only[Fl.ap]
            refine wpAnyH_done (by kernel_rfl) ?_ _
            go_wp2_with fail
            go_meet
            exact⟨g,rb,sb,rfl,h2⟩)
    · go_simp
      obtain⟨V6,hV⟩:∃V',V0.alloc (.cells (mkI n (λ_=>0)) 3)=V':=⟨_,rfl⟩
      rw[hV]
      have hb:Below V0.heap.size V0 V6:=by rw[<- hV];exact heap1 _ _
      obtain⟨sb,hsb⟩:∃sb,V0.heap.size=sb:=⟨_,rfl⟩
      have hs:Ib V6 sb n (λ_=>0):=by rw[<- hV,<- hsb];exact World.alloc_heap_new V0 _
      have hsz:W0.heap.size<=sb:=by rw[<- hsb];exact hS.size
      rw[hsb]
      clear hV
      have hS:=bt hS hb
      refine hK2.out _ _ hS (λ_ =>?_)
      clear hK2 K2 hb
      try simp only[Fl.ap]
      refine Fl.h_twoK 3 9 ({ dst:=some 10,op:=Op.call { callee:=Callee.value (Operand.func 56),args := #[Operand.tmp 9],argTypes := #[24] },type:=74,pos := "build.go:23",after := #[{ on:=2,ground:=Ground.data }],guard:=none }:Oper) ({ dst:=some 3,op:=Op.alloc 116,type:=0,pos := "build.go:23",after := #[],guard:=none }:Oper) rfl rfl (by kernel_rfl) rfl rfl (λK2 hK2 =>?_) (λK2 hK2 =>?_)
      · refine Fl.call_wpK own56 rfl rfl (args := #[.agg #[.slice A n c,.int .i64 r]]) rfl (HR.out _ hS) ?_
        rintro e V7 ⟨rb,rfl,hr,hge,hb⟩
        refine⟨_,rfl,?_⟩
        have hzz:W0.heap.size<=rb:=Nat.le_trans hS.size hge
        have hs:=hs.below hb hs.lt
        have hS:=bt hS hb
        refine hK2.out _ _ hS (λ_ =>?_)
        clear hK2 K2 hb
        try simp only[Fl.ap]
        refine Fl.hpu 8 (o:=({ dst:=some 15,op:=Op.build 116 #[(0,Operand.tmp 8),(1,Operand.tmp 10),(2,Operand.tmp 14)],type:=116,pos := "build.go:23",after := #[{ on:=1,ground:=Ground.data },{ on:=3,ground:=Ground.data },{ on:=7,ground:=Ground.data }],guard:=none }:Oper)) (.agg #[.slice A n c,.slice (some ⟨rb,0,none⟩) n n,.slice (some ⟨sb,0,none⟩) n n,.slice none 0 0,.slice none 0 0]) (by kernel_rfl) rfl rfl (λ_ _ _ h=>h) rfl (by intro w' hSw;clear hSw;go_simp) hS ?_
        try simp only[Fl.ap]
        refine Fl.h_oneK 9 ({ dst:=some 3,op:=Op.alloc 116,type:=0,pos := "build.go:23",after := #[],guard:=none }:Oper) rfl (by kernel_rfl) rfl (λK2 hK2 =>?_)
        · go_simp
          obtain⟨V8,hV⟩:∃V',V7.alloc (.cells #[.slice none 0 0,.slice none 0 0,.slice none 0 0,.slice none 0 0,.slice none 0 0] 116)=V':=⟨_,rfl⟩
          rw[hV]
          have hb:Below V7.heap.size V7 V8:=by rw[<- hV];exact heap1 _ _
          obtain⟨g,hgb⟩:∃g,V7.heap.size=g:=⟨_,rfl⟩
          have hg:Bx V8 g 116 [.slice none 0 0,.slice none 0 0,.slice none 0 0,.slice none 0 0,.slice none 0 0]:=by rw[<- hV,<- hgb];exact Bx.new V7 116 _
          have hgz:W0.heap.size<=g:=by rw[<- hgb];exact hS.size
          rw[hgb]
          clear hV
          have hr:=hr.below hb hr.lt
          have hs:=hs.below hb hs.lt
          have hS:=bt hS hb
          refine hK2.out _ _ hS (λ_ =>?_)
          clear hK2 K2 hb
          try simp only[Fl.ap]
          refine Fl.h_oneK 10 ({ dst:=none,op:=Op.store 116 (Operand.tmp 3) (Operand.tmp 15),type:=0,pos := "build.go:23",after := #[{ on:=9,ground:=Ground.data },{ on:=8,ground:=Ground.data },{ on:=3,ground:=Ground.chain },{ on:=0,ground:=Ground.phase },{ on:=1,ground:=Ground.phase },{ on:=2,ground:=Ground.phase },{ on:=3,ground:=Ground.phase },{ on:=4,ground:=Ground.phase },{ on:=5,ground:=Ground.phase },{ on:=6,ground:=Ground.phase },{ on:=7,ground:=Ground.phase },{ on:=8,ground:=Ground.phase },{ on:=9,ground:=Ground.phase }],guard:=none }:Oper) rfl (by kernel_rfl) rfl (λK2 hK2 =>?_)
          have g0:=(hg.cell 0).trans rfl;have g1:=(hg.cell 1).trans rfl;have g2:=(hg.cell 2).trans rfl;have g3:=(hg.cell 3).trans rfl;have g4:=(hg.cell 4).trans rfl;have f0:=hg.frozen 0;have f1:=hg.frozen 1;have f2:=hg.frozen 2;have f3:=hg.frozen 3;have f4:=hg.frozen 4
          go_simp
          exact bld_leaf hS hg hr hs hgz hsz (λW' h1 h2=>by
            refine hK2.out _ _ h1 (λhS2 =>?_)
            clear hK2 K2 g0 g1 g2 g3 g4 f0 f1 f2 f3 f4
            try simp only[Fl.ap]
            refine wpAnyH_done (by kernel_rfl) ?_ _
            go_wp2_with fail
            go_meet
            exact⟨g,rb,sb,rfl,h2⟩)
      · go_simp
        obtain⟨V9,hV⟩:∃V',V6.alloc (.cells #[.slice none 0 0,.slice none 0 0,.slice none 0 0,.slice none 0 0,.slice none 0 0] 116)=V':=⟨_,rfl⟩
        rw[hV]
        have hb:Below V6.heap.size V6 V9:=by rw[<- hV];exact heap1 _ _
        obtain⟨g,hgb⟩:∃g,V6.heap.size=g:=⟨_,rfl⟩
        have hg:Bx V9 g 116 [.slice none 0 0,.slice none 0 0,.slice none 0 0,.slice none 0 0,.slice none 0 0]:=by rw[<- hV,<- hgb];exact Bx.new V6 116 _
        have hgz:W0.heap.size<=g:=by rw[<- hgb];exact hS.size
        rw[hgb]
        clear hV
        have hs:=hs.below hb hs.lt
        have hS:=bt hS hb
        refine hK2.out _ _ hS (λ_ =>?_)
        clear hK2 K2 hb
        try simp only[Fl.ap]
        refine Fl.h_oneK 3 ({ dst:=some 10,op:=Op.call { callee:=Callee.value (Operand.func 56),args := #[Operand.tmp 9],argTypes := #[24] },type:=74,pos := "build.go:23",after := #[{ on:=2,ground:=Ground.data }],guard:=none }:Oper) rfl (by kernel_rfl) rfl (λK2 hK2 =>?_)
        · refine Fl.call_wpK own56 rfl rfl (args := #[.agg #[.slice A n c,.int .i64 r]]) rfl (HR.out _ hS) ?_
          rintro e V10 ⟨rb,rfl,hr,hge,hb⟩
          refine⟨_,rfl,?_⟩
          have hzz:W0.heap.size<=rb:=Nat.le_trans hS.size hge
          have hs:=hs.below hb hs.lt
          have hg:=hg.below hb hg.lt
          have hS:=bt hS hb
          refine hK2.out _ _ hS (λ_ =>?_)
          clear hK2 K2 hb
          try simp only[Fl.ap]
          refine Fl.hpu 8 (o:=({ dst:=some 15,op:=Op.build 116 #[(0,Operand.tmp 8),(1,Operand.tmp 10),(2,Operand.tmp 14)],type:=116,pos := "build.go:23",after := #[{ on:=1,ground:=Ground.data },{ on:=3,ground:=Ground.data },{ on:=7,ground:=Ground.data }],guard:=none }:Oper)) (.agg #[.slice A n c,.slice (some ⟨rb,0,none⟩) n n,.slice (some ⟨sb,0,none⟩) n n,.slice none 0 0,.slice none 0 0]) (by kernel_rfl) rfl rfl (λ_ _ _ h=>h) rfl (by intro w' hSw;clear hSw;go_simp) hS ?_
          try simp only[Fl.ap]
          refine Fl.h_oneK 10 ({ dst:=none,op:=Op.store 116 (Operand.tmp 3) (Operand.tmp 15),type:=0,pos := "build.go:23",after := #[{ on:=9,ground:=Ground.data },{ on:=8,ground:=Ground.data },{ on:=3,ground:=Ground.chain },{ on:=0,ground:=Ground.phase },{ on:=1,ground:=Ground.phase },{ on:=2,ground:=Ground.phase },{ on:=3,ground:=Ground.phase },{ on:=4,ground:=Ground.phase },{ on:=5,ground:=Ground.phase },{ on:=6,ground:=Ground.phase },{ on:=7,ground:=Ground.phase },{ on:=8,ground:=Ground.phase },{ on:=9,ground:=Ground.phase }],guard:=none }:Oper) rfl (by kernel_rfl) rfl (λK2 hK2 =>?_)
          have g0:=(hg.cell 0).trans rfl;have g1:=(hg.cell 1).trans rfl;have g2:=(hg.cell 2).trans rfl;have g3:=(hg.cell 3).trans rfl;have g4:=(hg.cell 4).trans rfl;have f0:=hg.frozen 0;have f1:=hg.frozen 1;have f2:=hg.frozen 2;have f3:=hg.frozen 3;have f4:=hg.frozen 4
          go_simp
          exact bld_leaf hS hg hr hs hgz hsz (λW' h1 h2=>by
            refine hK2.out _ _ h1 (λhS2 =>?_)
            clear hK2 K2 g0 g1 g2 g3 g4 f0 f1 f2 f3 f4
            try simp only[Fl.ap]
            refine wpAnyH_done (by kernel_rfl) ?_ _
            go_wp2_with fail
            go_meet
            exact⟨g,rb,sb,rfl,h2⟩)
    · go_simp
      obtain⟨V11,hV⟩:∃V',V0.alloc (.cells #[.slice none 0 0,.slice none 0 0,.slice none 0 0,.slice none 0 0,.slice none 0 0] 116)=V':=⟨_,rfl⟩
      rw[hV]
      have hb:Below V0.heap.size V0 V11:=by rw[<- hV];exact heap1 _ _
      obtain⟨g,hgb⟩:∃g,V0.heap.size=g:=⟨_,rfl⟩
      have hg:Bx V11 g 116 [.slice none 0 0,.slice none 0 0,.slice none 0 0,.slice none 0 0,.slice none 0 0]:=by rw[<- hV,<- hgb];exact Bx.new V0 116 _
      have hgz:W0.heap.size<=g:=by rw[<- hgb];exact hS.size
      rw[hgb]
      clear hV
      have hS:=bt hS hb
      refine hK2.out _ _ hS (λ_ =>?_)
      clear hK2 K2 hb
      try simp only[Fl.ap]
      refine Fl.h_twoK 3 7 ({ dst:=some 10,op:=Op.call { callee:=Callee.value (Operand.func 56),args := #[Operand.tmp 9],argTypes := #[24] },type:=74,pos := "build.go:23",after := #[{ on:=2,ground:=Ground.data }],guard:=none }:Oper) ({ dst:=some 14,op:=Op.makeSlice 28 (Operand.tmp 13) (Operand.tmp 13),type:=28,pos := "build.go:23",after := #[{ on:=6,ground:=Ground.data },{ on:=6,ground:=Ground.data }],guard:=none }:Oper) rfl rfl (by kernel_rfl) rfl rfl (λK2 hK2 =>?_) (λK2 hK2 =>?_)
      · refine Fl.call_wpK own56 rfl rfl (args := #[.agg #[.slice A n c,.int .i64 r]]) rfl (HR.out _ hS) ?_
        rintro e V12 ⟨rb,rfl,hr,hge,hb⟩
        refine⟨_,rfl,?_⟩
        have hzz:W0.heap.size<=rb:=Nat.le_trans hS.size hge
        have hg:=hg.below hb hg.lt
        have hS:=bt hS hb
        refine hK2.out _ _ hS (λ_ =>?_)
        clear hK2 K2 hb
        try simp only[Fl.ap]
        refine Fl.h_oneK 7 ({ dst:=some 14,op:=Op.makeSlice 28 (Operand.tmp 13) (Operand.tmp 13),type:=28,pos := "build.go:23",after := #[{ on:=6,ground:=Ground.data },{ on:=6,ground:=Ground.data }],guard:=none }:Oper) rfl (by kernel_rfl) rfl (λK2 hK2 =>?_)
        · go_simp
          obtain⟨V13,hV⟩:∃V',V12.alloc (.cells (mkI n (λ_=>0)) 3)=V':=⟨_,rfl⟩
          rw[hV]
          have hb:Below V12.heap.size V12 V13:=by rw[<- hV];exact heap1 _ _
          obtain⟨sb,hsb⟩:∃sb,V12.heap.size=sb:=⟨_,rfl⟩
          have hs:Ib V13 sb n (λ_=>0):=by rw[<- hV,<- hsb];exact World.alloc_heap_new V12 _
          have hsz:W0.heap.size<=sb:=by rw[<- hsb];exact hS.size
          rw[hsb]
          clear hV
          have hr:=hr.below hb hr.lt
          have hg:=hg.below hb hg.lt
          have hS:=bt hS hb
          refine hK2.out _ _ hS (λ_ =>?_)
          clear hK2 K2 hb
          try simp only[Fl.ap]
          refine Fl.hpu 8 (o:=({ dst:=some 15,op:=Op.build 116 #[(0,Operand.tmp 8),(1,Operand.tmp 10),(2,Operand.tmp 14)],type:=116,pos := "build.go:23",after := #[{ on:=1,ground:=Ground.data },{ on:=3,ground:=Ground.data },{ on:=7,ground:=Ground.data }],guard:=none }:Oper)) (.agg #[.slice A n c,.slice (some ⟨rb,0,none⟩) n n,.slice (some ⟨sb,0,none⟩) n n,.slice none 0 0,.slice none 0 0]) (by kernel_rfl) rfl rfl (λ_ _ _ h=>h) rfl (by intro w' hSw;clear hSw;go_simp) hS ?_
          try simp only[Fl.ap]
          refine Fl.h_oneK 10 ({ dst:=none,op:=Op.store 116 (Operand.tmp 3) (Operand.tmp 15),type:=0,pos := "build.go:23",after := #[{ on:=9,ground:=Ground.data },{ on:=8,ground:=Ground.data },{ on:=3,ground:=Ground.chain },{ on:=0,ground:=Ground.phase },{ on:=1,ground:=Ground.phase },{ on:=2,ground:=Ground.phase },{ on:=3,ground:=Ground.phase },{ on:=4,ground:=Ground.phase },{ on:=5,ground:=Ground.phase },{ on:=6,ground:=Ground.phase },{ on:=7,ground:=Ground.phase },{ on:=8,ground:=Ground.phase },{ on:=9,ground:=Ground.phase }],guard:=none }:Oper) rfl (by kernel_rfl) rfl (λK2 hK2 =>?_)
          have g0:=(hg.cell 0).trans rfl;have g1:=(hg.cell 1).trans rfl;have g2:=(hg.cell 2).trans rfl;have g3:=(hg.cell 3).trans rfl;have g4:=(hg.cell 4).trans rfl;have f0:=hg.frozen 0;have f1:=hg.frozen 1;have f2:=hg.frozen 2;have f3:=hg.frozen 3;have f4:=hg.frozen 4
          go_simp
          exact bld_leaf hS hg hr hs hgz hsz (λW' h1 h2=>by
            refine hK2.out _ _ h1 (λhS2 =>?_)
            clear hK2 K2 g0 g1 g2 g3 g4 f0 f1 f2 f3 f4
            try simp only[Fl.ap]
            refine wpAnyH_done (by kernel_rfl) ?_ _
            go_wp2_with fail
            go_meet
            exact⟨g,rb,sb,rfl,h2⟩)
      · go_simp
        obtain⟨V14,hV⟩:∃V',V11.alloc (.cells (mkI n (λ_=>0)) 3)=V':=⟨_,rfl⟩
        rw[hV]
        have hb:Below V11.heap.size V11 V14:=by rw[<- hV];exact heap1 _ _
        obtain⟨sb,hsb⟩:∃sb,V11.heap.size=sb:=⟨_,rfl⟩
        have hs:Ib V14 sb n (λ_=>0):=by rw[<- hV,<- hsb];exact World.alloc_heap_new V11 _
        have hsz:W0.heap.size<=sb:=by rw[<- hsb];exact hS.size
        rw[hsb]
        clear hV
        have hg:=hg.below hb hg.lt
        have hS:=bt hS hb
        refine hK2.out _ _ hS (λ_ =>?_)
        clear hK2 K2 hb
        try simp only[Fl.ap]
        refine Fl.h_oneK 3 ({ dst:=some 10,op:=Op.call { callee:=Callee.value (Operand.func 56),args := #[Operand.tmp 9],argTypes := #[24] },type:=74,pos := "build.go:23",after := #[{ on:=2,ground:=Ground.data }],guard:=none }:Oper) rfl (by kernel_rfl) rfl (λK2 hK2 =>?_)
        · refine Fl.call_wpK own56 rfl rfl (args := #[.agg #[.slice A n c,.int .i64 r]]) rfl (HR.out _ hS) ?_
          rintro e V15 ⟨rb,rfl,hr,hge,hb⟩
          refine⟨_,rfl,?_⟩
          have hzz:W0.heap.size<=rb:=Nat.le_trans hS.size hge
          have hs:=hs.below hb hs.lt
          have hg:=hg.below hb hg.lt
          have hS:=bt hS hb
          refine hK2.out _ _ hS (λ_ =>?_)
          clear hK2 K2 hb
          try simp only[Fl.ap]
          refine Fl.hpu 8 (o:=({ dst:=some 15,op:=Op.build 116 #[(0,Operand.tmp 8),(1,Operand.tmp 10),(2,Operand.tmp 14)],type:=116,pos := "build.go:23",after := #[{ on:=1,ground:=Ground.data },{ on:=3,ground:=Ground.data },{ on:=7,ground:=Ground.data }],guard:=none }:Oper)) (.agg #[.slice A n c,.slice (some ⟨rb,0,none⟩) n n,.slice (some ⟨sb,0,none⟩) n n,.slice none 0 0,.slice none 0 0]) (by kernel_rfl) rfl rfl (λ_ _ _ h=>h) rfl (by intro w' hSw;clear hSw;go_simp) hS ?_
          try simp only[Fl.ap]
          refine Fl.h_oneK 10 ({ dst:=none,op:=Op.store 116 (Operand.tmp 3) (Operand.tmp 15),type:=0,pos := "build.go:23",after := #[{ on:=9,ground:=Ground.data },{ on:=8,ground:=Ground.data },{ on:=3,ground:=Ground.chain },{ on:=0,ground:=Ground.phase },{ on:=1,ground:=Ground.phase },{ on:=2,ground:=Ground.phase },{ on:=3,ground:=Ground.phase },{ on:=4,ground:=Ground.phase },{ on:=5,ground:=Ground.phase },{ on:=6,ground:=Ground.phase },{ on:=7,ground:=Ground.phase },{ on:=8,ground:=Ground.phase },{ on:=9,ground:=Ground.phase }],guard:=none }:Oper) rfl (by kernel_rfl) rfl (λK2 hK2 =>?_)
          have g0:=(hg.cell 0).trans rfl;have g1:=(hg.cell 1).trans rfl;have g2:=(hg.cell 2).trans rfl;have g3:=(hg.cell 3).trans rfl;have g4:=(hg.cell 4).trans rfl;have f0:=hg.frozen 0;have f1:=hg.frozen 1;have f2:=hg.frozen 2;have f3:=hg.frozen 3;have f4:=hg.frozen 4
          go_simp
          exact bld_leaf hS hg hr hs hgz hsz (λW' h1 h2=>by
            refine hK2.out _ _ h1 (λhS2 =>?_)
            clear hK2 K2 g0 g1 g2 g3 g4 f0 f1 f2 f3 f4
            try simp only[Fl.ap]
            refine wpAnyH_done (by kernel_rfl) ?_ _
            go_wp2_with fail
            go_meet
            exact⟨g,rb,sb,rfl,h2⟩)
  case rest=>
    obtain⟨g,rb,sb,rfl,hW1⟩:=hcut
    obtain⟨W1,rfl⟩:∃W1,W1=wc:=⟨_,rfl⟩
    clear l0 l1 hmk
    obtain⟨base,hbase⟩:∃base,W1.heap.size=base:=⟨_,rfl⟩
    rw[hbase]at hW1
    obtain⟨R,hR⟩:∃R,rsF l r n=R:=⟨_,rfl⟩
    rw[hR]at hW1
    have HRs:=hid hR
    have hlen:=HRT.out.len
    have hrn:r=((l.length-1:Nat):Int):=by rw[HRR.out];omega
    have hpl:l.length-1<l.length:=by omega
    obtain⟨q,hq⟩:∃q,l.length-1=q:=⟨_,rfl⟩
    rw[hq]at hrn hpl
    subst hrn
    have hqn:(q:Int)<(n:Int):=by rw[HL.out];omega
    obtain⟨bA,off,K,cK,rfl,xt,x0,x1,x2,x3,x4,xI⟩:=node_at HT.out.nds hW1.b q hpl
    obtain⟨ks,hks⟩:∃ks,(Tr.nth l q).ks=ks:=⟨_,rfl⟩
    rw[<- Tr.nth_eq hpl,hks]at x4 xI
    have hkk:=λk (hk:k ∈ ks)=>fl_root HRT.out (k:=k) (by rw[hq,hks];exact hk)
    have hch:Ch b ks 0 q:=by
      have:=ch_of _ _ _ (fl_st HRT.out hpl)
      rw[List.reverse_reverse,hks,<- hq,HRT.out.zero,hq]at this
      exact this
    have hkl:ks.length<=q:=by rw[<- hks];exact fl_few HRT.out hpl
    have hgr:bdG l R ks 0 ⟨[],[],λ_=>0⟩=grG l R:=by unfold grG;rw[hq,hks]
    obtain⟨mk,hmk⟩:∃mk,ks.length=mk:=⟨_,rfl⟩
    rw[hmk]at x4
    have HMK:=hid hmk
    have HKK:=hid hkk
    have HXI:=hid xI
    have HQ:=hid (And.intro hq (And.intro hkl hpl))
    have HX1:=hid (HX0.out.below hW1.b HX0.out.lt)
    have HG1:=hid (HG0.out.below hW1.b HG0.out.lt)
    have a0:=(HX1.out.cell 0).trans rfl
    have a1:=(HX1.out.cell 1).trans rfl
    have HLO:=hid (show w.heap.size<g/\w.heap.size<sb/\w.heap.size+1<g/\w.heap.size+1<sb/\w.heap.size+1<base from by
      have h1:=hW1.lo
      have h2:=HG0.out.lt
      omega)
    have HST:=hid (show∃(ks1 ks2:List Int) (first:Nat) (s:BdS) (V U:Value),ks=ks1++ks2/\ks2.length=mk/\ks1.length=0/\first=0/\Ch b ks2 first q/\bdG l R ks2 first s=grG l R/\s.P.length<=ks1.length/\s.G.length<=3*s.P.length+first/\(∀p,p<l.length->stmB (Tr.nth l p).kd=true->∃j:Nat,s.sp p=(j:Int)/\j<s.G.length+3)/\BuW W0 (some ⟨bA,off,none⟩) n c g rb sb n n base R s.sp V U s.G s.P W1 from
      ⟨[],ks,0,⟨[],[],λ_=>0⟩,_,_,rfl,hmk,rfl,rfl,hch,hgr,Nat.le_refl _,Nat.zero_le _,λp _ _=>⟨0,rfl,by omega⟩,hW1⟩)
    have HB1:=hid hW1.b
    clear hR hW1 hbase hq hlen hks hkk hch hkl hgr hmk x0 x1 x2 x3 xI hpl
    go_wp2
    clear a0 a1 x4
    go_loopg [24,4] mk (λk v24 v4 wr=>∃(ks1 ks2:List Int) (first:Nat) (s:BdS) (V U:Value),ks=ks1++ks2/\ks2.length=k/\v24 = .int .i64 (ks1.length:Int)/\v4 = .int .i64 (first:Int)/\Ch b ks2 first q/\bdG l R ks2 first s=grG l R/\s.P.length<=ks1.length/\s.G.length<=3*s.P.length+first/\(∀p,p<l.length->stmB (Tr.nth l p).kd=true->∃j:Nat,s.sp p=(j:Int)/\j<s.G.length+3)/\BuW W0 (some ⟨bA,off,none⟩) n c g rb sb n n base R s.sp V U s.G s.P wr/\Fr (E0 g sb base) W1 wr)
    case atStart=>
      obtain⟨ks1,ks2,first,s,V,U,e1,e2,e3,e4,e5,e6,e7,e8,e9,e10⟩:=HST.out
      refine⟨ks1,ks2,first,s,V,U,e1,e2,by rw[e3];rfl,by rw[e4];rfl,e5,e6,e7,e8,e9,e10,Fr.refl _ _⟩
    case round=>
      obtain⟨ks1,ks2,first,s,V,U,hks,hk2,rfl,rfl,hch,hbd,hPl,hGl,hsp,hW,hF⟩:=hrel
      obtain⟨W3,rfl⟩:∃W3,W3=wr:=⟨_,rfl⟩
      have hx3:=Bx.fr HX1.out hF (λe=>by have h1:=HLO.out;unfold E0 at e;omega)
      have hg3:=Bx.fr HG1.out hF (λe=>by have h1:=HLO.out;unfold E0 at e;omega)
      have HX3:=hid hx3
      have HG3:=hid hg3
      have HF3:=hid hF
      have HW3:=hid hW
      cases ks2 with
      |nil=>
        have hmm:ks1.length=mk:=by have:=HMK.out;rw[hks]at this;simpa using this
        have hir:¬(ks1.length:Int)<(mk:Int):=by omega
        unfold bdG at hbd
        obtain⟨VA,vc,hV⟩:=hW.gn.slice
        obtain⟨UA,uc,hU⟩:=own_slice hW.pw
        have s3:=(hW.bx.cell 3).trans rfl
        have s4:=(hW.bx.cell 4).trans rfl
        have r0:=(hg3.cell 0).trans rfl
        have r1:=(hg3.cell 1).trans rfl
        have fr0:=hg3.frozen 0
        have fr1:=hg3.frozen 1
        rw[hV]at s3
        rw[hU]at s4
        have HVU:=hid (And.intro hV hU)
        have hgs:=hg3.set_ 0 V
        simp only[List.set_cons_zero]at hgs
        have hgt:=hgs.set_ 1 U
        simp only[List.set_cons_zero,List.set_cons_succ]at hgt
        have HF9:=hid (show Fr (λb=>b=w.heap.size+1) W3 ((W3.setCell ⟨w.heap.size+1,0,none⟩ V).setCell ⟨w.heap.size+1,1,none⟩ U) from((Fr.refl (λb=>b=w.heap.size+1) W3).set rfl _).set rfl _)
        rw[hV,hU]at hgt HF9
        have g0:=(hgt.cell 0).trans rfl
        have g1:=(hgt.cell 1).trans rfl
        have HBD:=hid hbd
        have HGT:=hid hgt
        have HBW:=hid (show Below w.heap.size w W3 from HB0.out.trans (hW.b.mono HB0.out.size))
        clear hV hU hgs hgt hx3 hg3 hF hW hbd hsp hPl hGl hch hks hk2
        go_wp2
        have hLO:=HLO.out
        have hb9:=HBW.out.trans (HF9.out.below (B:=w.heap.size) (λi e=>by have e:i=w.heap.size+1:=e;omega) HBW.out.size)
        have hE:BdP l (q:Int) n w (.returned (.agg #[.slice VA s.G.length vc,.slice UA s.P.length uc])) ((W3.setCell ⟨w.heap.size+1,0,none⟩ (.slice VA s.G.length vc)).setCell ⟨w.heap.size+1,1,none⟩ (.slice UA s.P.length uc)):=by
          refine⟨V,U,base,by rw[HVU.out.1,HVU.out.2],hb9,by omega,?_,?_⟩
          · rw[HRs.out,<- HBD.out]
            refine HW3.out.gn.move HF9.out (λb hb e=>by have e:b=w.heap.size+1:=e;have:=(HW3.out.gn.blk hb).1;omega) (λb cs hl hb hx=>⟨λe =>?_,id⟩)
            have e:b=w.heap.size+1:=e
            subst e
            have:=hb.symm.trans HG3.out
            simp at this
          · rw[HRs.out,<- HBD.out]
            exact own_frN HW3.out.pw HF9.out (λb hb e=>by have e:b=w.heap.size+1:=e;have:=(own_blk HW3.out.pw hb).1;omega)
        exact bodyPost_ret (v :=.agg #[.slice VA s.G.length vc,.slice UA s.P.length uc]) (by simp[results,Tryz.f50,go_sem,g0,g1]) rfl hE
      |cons k ks2=>
        obtain⟨m,rfl,hml,hkd⟩:=HKK.out k (by rw[hks];simp)
        obtain⟨m',e1,hbm,hc2⟩:=hch
        obtain rfl:m=m':=by omega
        have hmk2:ks1.length<mk:=by have:=HMK.out;rw[hks]at this;simp at this;omega
        have hir:(ks1.length:Int)<(mk:Int):=by omega
        have hq:=HQ.out
        have hmll:m<l.length:=by omega
        have hmn:(m:Int)<(n:Int):=by rw[HL.out];omega
        obtain⟨kk,off2,rfl,hkl,hkc⟩:=HXI.out (by have:=HMK.out;omega)
        have y0:=(hW.b.cell (p:=⟨kk,off2+ks1.length,none⟩) hkl).trans (hkc ks1.length (by have:=HMK.out;omega))
        have hkv:ks[ks1.length]'(by have:=HMK.out;omega)=(m:Int):=by simp[hks]
        rw[hkv]at y0
        have t0:=(hx3.cell 0).trans rfl
        obtain⟨bA2,off3,_,_,hA2,xt,x0,xr⟩:=node_at HT.out.nds hW.b m hmll
        cases hA2
        rw[<- Tr.nth_eq hmll]at x0
        have HKM:=hid (And.intro hbm (And.intro hml hmll))
        have HK2:=hid (show ks2.length+1=gk from hk2)
        have HKS:=hid (show ks=(ks1++[(m:Int)])++ks2 from hks.trans (by simp))
        have HPL:=hid (And.intro hPl hGl)
        have HSP:=hid hsp
        have HC2:=hid hc2
        have hbl:=HRT.out.st.le m hmll
        have HFM:=hid (show first<=m by omega)
        have hmk4:mk<=4000:=by have:=HN4.out;have:=HMK.out;omega
        rcases hkd with⟨h2,-⟩ |h3
        · rw[h2]at x0
          have HBD:=hid (show bdG l R ks2 (m+1) s=grG l R by
            rw[<- hbd,bdG_cons,Int.toNat_natCast,if_neg (by rw[h2];decide)])
          clear hx3 hg3 hF hW hbd hsp hPl hGl hks hk2 e1 hbm hc2 hkl hkc hkv xr xt h2 hq hml hbl
          go_wp2
          go_roundg (gk-1)
          case measure=>have:=HK2.out;omega
          case rel=>exact⟨ks1++[(m:Int)],ks2,m+1,s,V,U,HKS.out,by have:=HK2.out;omega,by first|go_num |simp,by first|go_num |simp,HC2.out,HBD.out,by rw[List.length_append,List.length_singleton];have:=HPL.out.1;omega,by have:=HPL.out.2;have:=HFM.out;omega,HSP.out,HW3.out,HF3.out⟩
        · rw[h3]at x0
          have HBD:=hid (show bdG l R ks2 (m+1) ⟨(prG l R (s.P.length:Int) s.G s.sp first m).1,s.P++[(m:Int)],(prG l R (s.P.length:Int) s.G s.sp first m).2⟩=grG l R by
            rw[<- hbd,bdG_cons,Int.toNat_natCast,if_pos h3])
          have hpc:=proc_any HT.out HRT.out hW m hmll h3 (by omega) (by omega) HN4.out hsp
          rw[hbm]at hpc
          have HPC:=hid hpc
          have HS2:=hid (show(prG l R (s.P.length:Int) s.G s.sp first m).1.length<=3*(s.P++[(m:Int)]).length+(m+1)/\∀p,p<l.length->stmB (Tr.nth l p).kd=true->∃j:Nat,(prG l R (s.P.length:Int) s.G s.sp first m).2 p=(j:Int)/\j<(prG l R (s.P.length:Int) s.G s.sp first m).1.length+3 from by
            have hlen:=prG_len l R (s.P.length:Int) s.G s.sp first m
            have hst:=stsL_len l first m
            have hfm:=HFM.out
            refine⟨by rw[hlen,List.length_append,List.length_singleton];omega,λp hp hs =>?_⟩
            rw[hlen]
            show∃j:Nat,spA l s.sp (s.G.length+3) first m p=(j:Int)/\_
            by_cases hr:first<=p/\p<m
            · exact⟨_,spA_in hr.1 hr.2 hs,by have:=stsL_lt (l:=l) hr.1 hr.2 hs;omega⟩
            · obtain⟨j,e1,e2⟩:=hsp p hp hs
              exact⟨j,by unfold spA;rw[if_neg (λe=>hr e.1)];exact e1,by omega⟩)
          clear hx3 hg3 hF hW hbd hsp hPl hGl hks hk2 e1 hbm hc2 hkl hkc hkv xr xt h3 hq hml hbl hpc
          go_wp2_with (go_at_call 87;refine HPC.out.mono ?_;rintro e w5 ⟨rfl,hf5,V5,U5,hw5⟩;have HF5:=hid (HF3.out.trans hf5);have HW5:=hid hw5;clear hf5 hw5)
          go_roundg (gk-1)
          case measure=>have:=HK2.out;omega
          case rel=>exact⟨ks1++[(m:Int)],ks2,m+1,⟨(prG l R (s.P.length:Int) s.G s.sp first m).1,s.P++[(m:Int)],(prG l R (s.P.length:Int) s.G s.sp first m).2⟩,V5,U5,HKS.out,by have:=HK2.out;omega,by first|go_num |simp,by first|go_num |simp,HC2.out,HBD.out,by simp only[List.length_append,List.length_singleton];have:=HPL.out.1;omega,HS2.out.1,HS2.out.2,HW5.out,HF5.out⟩
end
end Go.Proofs.YtedkgofehbecmaaGreatDoor
