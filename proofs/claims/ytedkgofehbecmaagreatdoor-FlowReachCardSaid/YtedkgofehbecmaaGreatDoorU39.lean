/- PROVED here: parts N41 of the claim. No condition but those in each theorem's own head. -/
import Derived.Test.YtedkgofehbecmaaGreatDoorU38
import Derived.Deep.LoopGhost
namespace Go.Proofs.YtedkgofehbecmaaGreatDoor
open Go.Lib (hid)
open Go Go.RowKit
open Tr (Bx heap1 bt Nds Ints BPost IPost rgB Ib)
theorem pr_append {ops:Array Oper}{rest:List Oper}{o:Oper}{a:Act}{Q:Exit->Act->World->Prop}(hgd:o.guard=none)(p x:Operand)
  (ho:o.op = .call { callee :=.builtin .append,args := #[p,x],argTypes := #[28,28] }) {w:World} {base:Nat} {U:Value} {P:List Int} (n:Int) (h:w.ownsRow base 3 1 U P.length (P.map (Value.int .i64))) (hb:base<=w.heap.size) (hs:a.eval p=U)
  (hx:a.eval x = .slice (some ⟨w.heap.size,0,none⟩) 1 1) (hlen:P.length<=900000)
  (hk:∀v' w',w'.ownsRow base 3 1 v' (P.length+1) (P.map (Value.int .i64)++[.int .i64 n])->(w.alloc (.cells #[.int .i64 n] 3)).grownBy w' U.ownBlock->(∀k,v'.ownBlock=some k->U.ownBlock=some k\/(w.alloc (.cells #[.int .i64 n] 3)).heap.size<=k)->wpList Tryz.prog ops Q rest (a.put o.dst v') w'):wpList Tryz.prog ops Q (o :: rest) a (w.alloc (.cells #[.int .i64 n] 3)):=by
 obtain⟨i0,hi,hz0,hz1,hz2⟩:=info_parts info3
 refine wpList_plain hgd λK hK =>?_
 refine wp_append_own2 _ p x 28 ho base 3 i0 (.int .i64 0) 1 8 Tryz.underlying28 hi hz0 hz1 hz2 rfl (by decide) U P.length (P.map (Value.int .i64)) hs (own_below h (heap1 _ _)) ⟨w.heap.size,0,none⟩ 1 1 [.int .i64 n] hx rfl (blk_cells w [.int .i64 n] 3) ?_ (by unfold maxLen;omega) (by omega) (by rw[World.size_alloc];omega) ?_
 ·intro u hu
  rw[List.mem_singleton.1 hu];rfl
 ·intro v' w' h2 h3 h4
  exact hK _ _ (hk v' w' h2 h3 h4)
theorem own135:Fl.Own 135:=⟨_,Tryz.func135,by kernel_rfl,by kernel_rfl⟩
section
variable {w0 w w':World} {A:Option Addr} {n c g rb sb cR cS base:Nat} {R:Nat->Bool} {sp:Nat->Int} {V U:Value} {G:List Gn} {P:List Int} {l:List Tr.Nd} {b:Nat->Nat}
theorem BuW.adds (h:BuW w0 A n c g rb sb cR cS base R sp V U G P w)(kd pl:Int){N:Nat}(hN:G.length=N)(h1:1<=P.length)(h2:P.length<=4000)(hG:N<=100000):Calls Tryz.prog 135 #[.pointer (some ⟨g,0,none⟩),.int .i64 kd,.int .i64 pl] w λe w'=>e = .returned (.int .i64 (N:Int))/\(∃V',BuW w0 A n c g rb sb cR cS base R sp V' U (G++[⟨kd,pl,(P.length:Int)-1,[],-1⟩]) P w')/\Fr (E0 g sb base) w w':=by
 obtain⟨UA,uc,hU⟩:=own_slice h.pw
 subst hN
 have hl:=h.lo
 have hbx:=h.bx
 rw[hU]at hbx
 refine(gadd_any (X:=XU sb U) hbx h.gn kd pl ⟨h1,h2⟩ hl.2.2.2.2.2 hl.2.2.1 hG).mono ?_
 rintro e w' ⟨V',he,hB,hGn,hf,_⟩
 rw[<- hU]at hB
 obtain⟨k1,k2⟩:=h.add hB hGn hf
 exact⟨he,⟨V',k1⟩,k2⟩
theorem ch_len (h:RtN l b):∀(ks:List Int) (e s:Nat),s<=l.length->Ch b ks e s->(∀k ∈ ks,∃m:Nat,k=(m:Int)/\m<s)->ks.length+e<=s
 | [],e,s,_,hc,_=>by unfold Ch at hc;simp;omega
 |k :: ks,e,s,hs,⟨m,h1,h2,h3⟩,hk=>by
  obtain⟨m',e1,e2⟩:=hk k (by simp)
  have:=h.st.le m (by omega)
  have:=ch_len h ks (m+1) s hs h3 λk hk'=>hk k (by simp[hk'])
  simp;omega
theorem fl_few (h:RtN l b){p:Nat}(hp:p<l.length):(Tr.nth l p).ks.length<=p:=by
 have hch:=ch_of _ _ _ (fl_st h hp)
 rw[List.reverse_reverse]at hch
 have:=ch_len h _ _ _ (by omega) hch λk hk=>by obtain⟨m,e1,e2,_⟩:=fl_mem h hp hk;exact⟨m,e1,e2⟩
 omega
theorem flok_of (h:RtN l b)(hl:l.length<=4000){N:Nat}(hsp:∀q,q<l.length->stmB (Tr.nth l q).kd=true->∃i:Nat,sp q=(i:Int)/\i<N):FlOk l sp N where
 blk:=λp hp h6 k hk=>by obtain⟨m,e1,e2,_,e4⟩:=fl_blk h hp h6 k hk;exact⟨m,e1,e2,e4⟩
 iff_:=λp hp hk=>by
  rcases fl_stk h hp (by rw[hk];rfl) with⟨a,c,d,hks,_,_,hc,hd⟩ |⟨_,_,_,hk',_,_⟩ |⟨_,_,_,hk',_,_⟩ |⟨h11,_,_,_⟩
  ·obtain⟨m1,e1,e2,_⟩:=fl_mem h hp (k:=(c:Int)) (by rw[hks];simp)
   obtain⟨m2,e3,e4,_⟩:=fl_mem h hp (k:=(d:Int)) (by rw[hks];simp)
   exact⟨_,c,d,hks,by omega,by omega,hc,hd⟩
  ·rw[hk]at hk';exact absurd hk' (by decide)
  ·rw[hk]at hk';exact absurd hk' (by decide)
  ·exact absurd hk h11
 whl:=λp hp hk=>by
  rcases fl_stk h hp (by rw[hk];rfl) with⟨_,_,_,_,hk',_,_,_⟩ |⟨a,c,hks,_,_,hc⟩ |⟨_,_,_,hk',_,_⟩ |⟨_,h12,_,_⟩
  ·rw[hk]at hk';exact absurd hk' (by decide)
  ·obtain⟨m1,e1,e2,_⟩:=fl_mem h hp (k:=(c:Int)) (by rw[hks];simp)
   exact⟨_,c,hks,by omega,hc⟩
  ·rw[hk]at hk';exact absurd hk' (by decide)
  ·exact absurd hk h12
 try_:=λp hp hk=>by
  rcases fl_stk h hp (by rw[hk];rfl) with⟨_,_,_,_,hk',_,_,_⟩ |⟨_,_,_,hk',_,_⟩ |⟨c,d,hks,_,hc,hd⟩ |⟨_,_,h16,_⟩
  ·rw[hk]at hk';exact absurd hk' (by decide)
  ·rw[hk]at hk';exact absurd hk' (by decide)
  ·obtain⟨m1,e1,e2,_⟩:=fl_mem h hp (k:=(c:Int)) (by rw[hks];simp)
   obtain⟨m2,e3,e4,_⟩:=fl_mem h hp (k:=(d:Int)) (by rw[hks];simp)
   exact⟨c,d,hks,by omega,by omega,hc,hd⟩
  ·exact absurd hk h16
 stp:=hsp
 few:=λx hx=>by
  obtain⟨p,hp,rfl⟩:=List.mem_iff_getElem.1 hx
  have:=fl_few h hp
  rw[Tr.nth_eq hp]at this
  omega
theorem rowG_succ (l:List Tr.Nd)(pr:Int){a i:Nat}(h:a<=i):rowG l pr a (i+1)=rowG l pr a i++if stmB (Tr.nth l i).kd then [⟨4,(i:Int),pr,[],-1⟩] else []:=by
 unfold rowG
 rw[stsL_succ l h,List.map_append]
 cases stmB (Tr.nth l i).kd<;>rfl
theorem spA_succ (l:List Tr.Nd)(sp:Nat->Int)(n:Nat){a i:Nat}(h:a<=i):spA l sp n a (i+1)=if stmB (Tr.nth l i).kd then (λj=>if j=i then ((n+(stsL l a i).length:Nat):Int) else spA l sp n a i j) else spA l sp n a i:=by
 funext j
 cases hst:stmB (Tr.nth l i).kd with
 |true=>
  by_cases e:j=i
  ·subst e
   simp only[if_true]
   rw[spA_in h (Nat.lt_succ_self j) hst]
  ·simp only[if_true,if_neg e]
   unfold spA
   by_cases k:(a<=j/\j<i)/\stmB (Tr.nth l j).kd=true
   ·rw[if_pos k,if_pos ⟨⟨k.1.1,by omega⟩,k.2⟩]
   ·rw[if_neg k,if_neg (λq=>k ⟨⟨q.1.1,by omega⟩,q.2⟩)]
 |false=>
  simp only[Bool.false_eq_true,if_false]
  unfold spA
  by_cases k:(a<=j/\j<i)/\stmB (Tr.nth l j).kd=true
  ·rw[if_pos k,if_pos ⟨⟨k.1.1,by omega⟩,k.2⟩]
  ·rw[if_neg k,if_neg (λq=>k ⟨⟨q.1.1,by
    have:j≠i:=λe=>by rw[e,hst]at q;exact absurd q.2 (by decide)
    omega⟩,q.2⟩)]
set_option maxRecDepth 100000 in
set_option maxHeartbeats 8000000 in
theorem proc_any (hT:TT w0 A n l)(hRt:RtN l b)(h:BuW w0 A n c g rb sb cR cS base R sp V U G P w)(z:Nat)(hz:z<l.length)(h3:(Tr.nth l z).kd=3)(hP:P.length<4000)(hG:G.length<=50000)(hl4:l.length<=4000)(hsp:∀q,q<l.length->stmB (Tr.nth l q).kd=true->∃i:Nat,sp q=(i:Int)/\i<G.length+3) :
  Calls Tryz.prog 87 #[.pointer (some ⟨g,0,none⟩),.int .i64 (b z:Int),.int .i64 (z:Int)] w (λe w'=>e = .returned (.tuple #[])/\Fr (E0 g sb base) w w'/\∃V' U',BuW w0 A n c g rb sb cR cS base R (prG l R (P.length:Int) G sp (b z) z).2 V' U' (prG l R (P.length:Int) G sp (b z) z).1 (P++[(z:Int)]) w'):=by
 obtain⟨UA,uc,hU⟩:=own_slice h.pw
 obtain⟨np,hnp⟩:∃np,P.length=np:=⟨_,rfl⟩
 obtain⟨N0,hN0⟩:∃N0,G.length=N0:=⟨_,rfl⟩
 obtain⟨a,ha⟩:∃a,b z=a:=⟨_,rfl⟩
 have haz:a<=z:=by rw[<- ha];exact hRt.st.le z hz
 rw[hnp]at hU hP
 rw[hN0]at hsp hG
 have HL:=hid hT.len
 have HT:=hid hT
 have HRT:=hid hRt
 have HSP:=hid hsp
 have HZ:=hid (And.intro hz (And.intro h3 (And.intro ha haz)))
 have HNP:=hid hnp
 have HNN:=hid hN0
 have HNB:=hid (And.intro hP (And.intro hG hl4))
 have HW:=hid h
 have HQ1:=hid (show 1<=(P++[(z:Int)]).length by simp)
 have HQ2:=hid (show(P++[(z:Int)]).length<=4000 by rw[List.length_append,hnp];simp;omega)
 have HQ3:=hid (show N0<=100000/\N0+1<=100000/\N0+2<=100000 by omega)
 have HQ4:=hid (show∀x:Gn,(G++[x]).length=N0+1 from λx=>by rw[List.length_append,hN0];rfl)
 have HQ5:=hid (show∀x y:Gn,(G++[x]++[y]).length=N0+2 from λx y=>by rw[List.length_append,List.length_append,hN0];rfl)
 have HQ6:=hid (show P.length<=900000 by omega)
 have HQ7:=hid (show U.ownBlock≠some g from λe=>by have:=(own_blk h.pw e).1;have:=h.lo;omega)
 have HU:=hid hU
 have c4:=(h.bx.cell 4).trans rfl
 rw[hU]at c4
 rw[ha]
 rw[hnp]
 clear h hU hz h3 haz hP hG hl4 hsp hT hRt ha
 go_enter Tryz.func87,Tryz.ntmps87
 go_upto_region 1 with(at_builtin;refine pr_append rfl _ _ rfl (z:Int) HW.out.pw HW.out.lo.2.2.2.2.2 (by rw[HU.out];rfl) rfl HQ6.out ?_;intro v' w4 hown4 hgrow4 hfr4;obtain⟨UA',uc',rfl⟩:=own_slice hown4;have hX4:=(HW.out.bx.alloc (.cells #[.int .i64 (z:Int)] 3)).grown hgrow4 (λe=>HQ7.out e.symm);have d4:=(hX4.cell 4).trans rfl;have fd4:=hX4.frozen 4;have HA4:=HW.out.app hown4 hgrow4 hfr4;rw[HNP.out]at HA4;replace HA4:=hid HA4;rw[HU.out]at d4;clear hown4 hgrow4 hfr4 hX4)
 obtain⟨W4,hW4⟩:∃W,w4.setCell ⟨g,4,none⟩ (.slice UA' (np+1) uc')=W:=⟨_,rfl⟩
 rw[hW4]at HA4 |-
 obtain⟨U1,hU1⟩:∃U1:Value,.slice UA' (np+1) uc'=U1:=⟨_,rfl⟩
 rw[hU1]at HA4
 have HU1:=hid hU1
 clear d4 fd4 hW4 c4 hU1 hnp hN0
 go_upto_region 2 with(go_at_call 135;first|(refine((HA6.out.adds (N:=N0+2) 3 (z:Int) (HQ5.out _ _) HQ1.out HQ2.out HQ3.out.2.2).mono ?_);rintro e w7 ⟨rfl,⟨V7,hw7⟩,hf7⟩;have HA7:=hid hw7;have HF7:=hid (HF6.out.trans hf7);clear hw7 hf7) |(refine((HA5.out.adds (N:=N0+1) 2 (z:Int) (HQ4.out _) HQ1.out HQ2.out HQ3.out.2.1).mono ?_);rintro e w6 ⟨rfl,⟨V6,hw6⟩,hf6⟩;have HA6:=hid hw6;have HF6:=hid (HF5.out.trans hf6);clear hw6 hf6) |(refine((HA4.out.1.adds (N:=N0) 1 (z:Int) HNN.out HQ1.out HQ2.out HQ3.out.1).mono ?_);rintro e w5 ⟨rfl,⟨V5,hw5⟩,hf5⟩;have HA5:=hid hw5;have HF5:=hid (HA4.out.2.trans hf5);clear hw5 hf5))
 have HB0:=hid (show∃V8,BuW w0 A n c g rb sb cR cS base R (spA l sp (N0+3) a a) V8 U1 (G++endsG z np++rowG l np a a) (P++[(z:Int)]) w7/\Fr (E0 g sb base) w w7 from⟨V7,by
  have t:=HA7.out
  have e:((P++[(z:Int)]).length:Int)-1=(np:Int):=by rw[List.length_append,HNP.out];simp
  rw[e]at t
  have e2:rowG l np a a=[]:=by unfold rowG;rw[stsL_same];rfl
  have e3:G++endsG z np++rowG l np a a=G++[⟨1,(z:Int),(np:Int),[],-1⟩]++[⟨2,(z:Int),(np:Int),[],-1⟩]++[⟨3,(z:Int),(np:Int),[],-1⟩]:=by rw[e2];simp[endsG]
  rw[spA_same,e3]
  exact t,HF7.out⟩)
 clear HA4 HA5 HA6 HA7 HF5 HF6 HF7 HQ1 HQ4 HQ5 HQ6 HQ7
 go_wp2
 go_loopg [9] (z-a) (λk v9 wr=>∃i:Nat,i+k=z/\v9 = .int .i64 (i:Int)/\a<=i/\∃V8,BuW w0 A n c g rb sb cR cS base R (spA l sp (N0+3) a i) V8 U1 (G++endsG z np++rowG l np a i) (P++[(z:Int)]) wr/\Fr (E0 g sb base) w wr)
 case atStart=>exact⟨a,by have:=HZ.out;omega,rfl,Nat.le_refl _,HB0.out⟩
 case round=>
  obtain⟨i,hi,rfl,hai,V8,hW,hF⟩:=hrel
  obtain⟨W3,rfl⟩:∃W3,W3=wr:=⟨_,rfl⟩
  have HGK:=hid hi
  have HW3:=hid hW
  have HF3:=hid hF
  have HAI:=hid hai
  have hn4:n<=4000:=by rw[HL.out];exact HNB.out.2.2
  by_cases hlt:i<z
  ·have hiz:(i:Int)<(z:Int):=by omega
   have hil:i<l.length:=by have:=HZ.out.1;omega
   have hin:i<n:=by rw[HL.out];exact hil
   have hizn:(i:Int)<(n:Int):=by omega
   obtain⟨bA,off,K,cK,rfl,xt,x0,xr⟩:=node_at HT.out.nds hW.b i hil
   clear xr
   have hnth:Tr.nth l i=l[i]:=Tr.nth_eq hil
   obtain⟨kd,hkd⟩:∃kd,(Tr.nth l i).kd=kd:=⟨_,rfl⟩
   rw[<- hnth,hkd]at x0
   have HKD:=hid hkd
   have HLT:=hid hlt
   have t0:=(hW.bx.cell 0).trans rfl
   have HC:=hid (isStm_any kd W3)
   obtain⟨Ni,hNi⟩:∃Ni,N0+3+(stsL l a i).length=Ni:=⟨_,rfl⟩
   have HNI:=hid hNi
   have hNil:Ni<=100000:=by have:=stsL_len l a i;have:=HNB.out;have:=HZ.out;omega
   have HGL:=hid (show(G++endsG z np++rowG l np a i).length=Ni by rw[List.length_append,List.length_append,HNN.out,<- hNi];simp[endsG,rowG])
   have HPL:=hid (show 1<=(P++[(z:Int)]).length/\(P++[(z:Int)]).length<=4000/\Ni<=100000 from⟨by simp,HQ2.out,hNil⟩)
   have HPR:=hid (show((P++[(z:Int)]).length:Int)-1=(np:Int)by rw[List.length_append,HNP.out];simp)
   have HROW:=hid (rowG_succ l np hai)
   have HSPA:=hid (spA_succ l sp (N0+3) hai)
   rw[hkd]at HROW HSPA
   cases hst:stmB kd with
   |true=>
    rw[hst]at HC HROW HSPA
    clear hi hai hW hF hlt hil hnth hkd hNi hNil hst
    go_upto_region 6 with(go_at_call 136;refine HC.out.mono ?_;rintro e w4 ⟨rfl,hb4⟩)
    have HW4:=hid (HW3.out.below hb4)
    have HF4:=hid (HF3.out.trans (Fr.of hb4))
    clear hb4 t0 x0 xt
    refine wp_region_held (S:=(λW'=>W'.cell? ⟨g,2,none⟩=some (.slice (some ⟨sb,0,none⟩) n cS))) (by kernel_rfl) ?_
    have hS:(λW'=>W'.cell? ⟨g,2,none⟩=some (.slice (some ⟨sb,0,none⟩) n cS)) ({ w4 with drawn:=w4.drawn+1 }:World):=(HW4.out.bx.cell 2).trans rfl
    have HV0:=hid (show BuW w0 (some ⟨bA,off,none⟩) n c g rb sb cR cS base R (spA l sp (N0+3) a i) V8 U1 (G++endsG z np++rowG l np a i) (P++[(z:Int)]) ({ w4 with drawn:=w4.drawn+1 }:World)from HW4.out.below (Below.refl _ _).drew)
    have HF0:=hid (show Fr (E0 g sb base) w ({ w4 with drawn:=w4.drawn+1 }:World)from HF4.out.trans (Fr.of (Below.refl _ _).drew))
    generalize ({ w4 with drawn:=w4.drawn+1 }:World)=V0 at *
    refine Fl.hpu 0 (o:=({ dst:=some 48,op:=Op.move (Operand.tmp 0),type:=157,pos := "build.go:40",after := #[],guard:=none }:Oper)) (.pointer (some ⟨g,0,none⟩)) (by kernel_rfl) rfl rfl (λ_ _ _ h=>h) rfl (by intro w' hSw;have e4:=hSw;clear hSw;go_simp) hS ?_
    try simp only[Fl.ap]
    refine Fl.hpu 1 (o:=({ dst:=some 49,op:=Op.nilCheck (Operand.tmp 48),type:=0,pos := "build.go:40",after := #[{ on:=0,ground:=Ground.data }],guard:=none }:Oper)) (.pointer (some ⟨g,0,none⟩)) (by kernel_rfl) rfl rfl (λ_ _ _ h=>h) rfl (by intro w' hSw;have e4:=hSw;clear hSw;go_simp) hS ?_
    try simp only[Fl.ap]
    refine Fl.hpu 2 (o:=({ dst:=some 50,op:=Op.fieldAddr 116 (Operand.tmp 49) 2,type:=0,pos := "build.go:40",after := #[{ on:=1,ground:=Ground.data }],guard:=none }:Oper)) (.pointer (some ⟨g,2,none⟩)) (by kernel_rfl) rfl rfl (λ_ _ _ h=>h) rfl (by intro w' hSw;have e4:=hSw;clear hSw;go_simp) hS ?_
    try simp only[Fl.ap]
    refine Fl.hpu 3 (o:=({ dst:=some 51,op:=Op.load 28 (Operand.tmp 50),type:=28,pos := "build.go:40",after := #[{ on:=2,ground:=Ground.data }],guard:=none }:Oper)) (.slice (some ⟨sb,0,none⟩) n cS) (by kernel_rfl) rfl rfl (λ_ _ _ h=>h) rfl (by intro w' hSw;have e4:=hSw;clear hSw;go_simp) hS ?_
    try simp only[Fl.ap]
    refine Fl.hpu 4 (o:=({ dst:=some 52,op:=Op.move (Operand.tmp 9),type:=3,pos := "build.go:40",after := #[],guard:=none }:Oper)) (.int .i64 (i:Int)) (by kernel_rfl) rfl rfl (λ_ _ _ h=>h) rfl (by intro w' hSw;have e4:=hSw;clear hSw;go_simp) hS ?_
    try simp only[Fl.ap]
    refine Fl.hpu 5 (o:=({ dst:=some 53,op:=Op.move (Operand.tmp 0),type:=157,pos := "build.go:40",after := #[],guard:=none }:Oper)) (.pointer (some ⟨g,0,none⟩)) (by kernel_rfl) rfl rfl (λ_ _ _ h=>h) rfl (by intro w' hSw;have e4:=hSw;clear hSw;go_simp) hS ?_
    try simp only[Fl.ap]
    refine Fl.hpu 6 (o:=({ dst:=some 54,op:=Op.move (Operand.tmp 9),type:=3,pos := "build.go:40",after := #[],guard:=none }:Oper)) (.int .i64 (i:Int)) (by kernel_rfl) rfl rfl (λ_ _ _ h=>h) rfl (by intro w' hSw;have e4:=hSw;clear hSw;go_simp) hS ?_
    try simp only[Fl.ap]
    refine Fl.h_call 7 ({ dst:=some 55,op:=Op.call { callee:=Callee.value (Operand.func 135),args := #[Operand.tmp 53,Operand.const (Value.int IntKind.i64 4),Operand.tmp 54],argTypes := #[157,3,3] },type:=3,pos := "build.go:40",after := #[{ on:=5,ground:=Ground.data },{ on:=6,ground:=Ground.data }],guard:=none }:Oper) (λv w1=>v = .int .i64 (Ni:Int)/\(∃V',BuW w0 (some ⟨bA,off,none⟩) n c g rb sb cR cS base R (spA l sp (N0+3) a i) V' U1 (G++endsG z np++rowG l np a i++[⟨4,(i:Int),((P++[(z:Int)]).length:Int)-1,[],-1⟩]) (P++[(z:Int)]) w1)/\Fr (E0 g sb base) V0 w1) own135 rfl rfl rfl (by kernel_rfl) rfl (args := #[.pointer (some ⟨g,0,none⟩),.int .i64 4,.int .i64 (i:Int)]) rfl (((HV0.out.adds 4 (i:Int) HGL.out HPL.out.1 HPL.out.2.1 HPL.out.2.2).mono λe w1 q=>⟨_,q.1,rfl,q.2⟩)) ?_
    rintro v V1 ⟨rfl,hv1⟩
    have HV1:=hid hv1
    have hS:V1.cell? ⟨g,2,none⟩=some (.slice (some ⟨sb,0,none⟩) n cS):=by obtain⟨⟨V9,h9⟩,_⟩:=hv1;exact(h9.bx.cell 2).trans rfl
    clear hv1
    refine⟨hS,?_⟩
    try simp only[Fl.ap]
    refine Fl.hpu 8 (o:=({ dst:=some 56,op:=Op.indexAddr 28 (Operand.tmp 51) (Operand.tmp 52),type:=0,pos := "build.go:40",after := #[{ on:=3,ground:=Ground.data },{ on:=4,ground:=Ground.data },{ on:=0,ground:=Ground.phase },{ on:=1,ground:=Ground.phase },{ on:=2,ground:=Ground.phase },{ on:=3,ground:=Ground.phase },{ on:=4,ground:=Ground.phase },{ on:=5,ground:=Ground.phase },{ on:=6,ground:=Ground.phase },{ on:=7,ground:=Ground.phase }],guard:=none }:Oper)) (.pointer (some ⟨sb,i,none⟩)) (by kernel_rfl) rfl rfl (λ_ _ _ h=>h) rfl (by intro w' hSw;have e4:=hSw;clear hSw;go_simp) hS ?_
    try simp only[Fl.ap]
    refine Fl.h_oneK 9 ({ dst:=none,op:=Op.store 3 (Operand.tmp 56) (Operand.tmp 55),type:=0,pos := "build.go:40",after := #[{ on:=8,ground:=Ground.data },{ on:=7,ground:=Ground.data },{ on:=7,ground:=Ground.chain },{ on:=0,ground:=Ground.phase },{ on:=1,ground:=Ground.phase },{ on:=2,ground:=Ground.phase },{ on:=3,ground:=Ground.phase },{ on:=4,ground:=Ground.phase },{ on:=5,ground:=Ground.phase },{ on:=6,ground:=Ground.phase },{ on:=7,ground:=Ground.phase }],guard:=none }:Oper) rfl (by kernel_rfl) rfl (λK2 hK2 =>?_)
    obtain⟨u3,hu3,fu3,hsg⟩:∃u3:Int,V1.cell? ⟨sb,i,none⟩=some (.int .i64 u3)/\V1.frozen? ⟨sb,i,none⟩=false/\sb≠g:=by obtain⟨⟨V9,h9⟩,_⟩:=HV1.out;exact⟨_,h9.st.cell hin,h9.st.frozen i,h9.ne.2.1⟩
    go_simp
    refine hK2.out _ _ ((World.cell?_setCell_other V1 ⟨sb,i,none⟩ ⟨g,2,none⟩ _ (by simp)).trans hS) (λhS2 =>?_)
    clear hK2 K2 hu3 fu3
    replace hS:=hS2
    try simp only[Fl.ap]
    refine wpAnyH_done (by kernel_rfl) ?_ _
    clear hS
    have HE:=hid (show∃V8,BuW w0 (some ⟨bA,off,none⟩) n c g rb sb cR cS base R (spA l sp (N0+3) a (i+1)) V8 U1 (G++endsG z np++rowG l np a (i+1)) (P++[(z:Int)]) (V1.setCell ⟨sb,i,none⟩ (.int .i64 (Ni:Int)))/\Fr (E0 g sb base) w (V1.setCell ⟨sb,i,none⟩ (.int .i64 (Ni:Int)))from by
     obtain⟨V9,h9⟩:=HV1.out.1
     rw[HPR.out]at h9
     have h10:=h9.step i (Ni:Int)
     refine⟨V9,?_,HF0.out.trans (HV1.out.2.trans h10.2)⟩
     rw[HROW.out,HSPA.out,HNI.out]
     simp only[if_true]
     rw[<- List.append_assoc]
     exact h10.1)
    go_wp2
    go_roundg (z-(i+1))
    case measure=>have:=HLT.out;have:=HGK.out;omega
    case rel=>exact⟨i+1,by have:=HLT.out;omega,by go_num,by have:=HAI.out;omega,HE.out⟩
   |false=>
    rw[hst]at HC HROW HSPA
    clear hi hai hW hF hlt hil hnth hkd hNi hNil hst
    go_wp2_with (go_at_call 136;refine HC.out.mono ?_;rintro e w4 ⟨rfl,hb4⟩)
    have HE:=hid (show∃V8,BuW w0 (some ⟨bA,off,none⟩) n c g rb sb cR cS base R (spA l sp (N0+3) a (i+1)) V8 U1 (G++endsG z np++rowG l np a (i+1)) (P++[(z:Int)]) w4/\Fr (E0 g sb base) w w4 from by
     refine⟨V8,?_,HF3.out.trans (Fr.of hb4)⟩
     rw[HROW.out,HSPA.out]
     simp only[Bool.false_eq_true,if_false,List.append_nil]
     exact HW3.out.below hb4)
    clear hb4
    go_wp2
    go_roundg (z-(i+1))
    case measure=>have:=HLT.out;have:=HGK.out;omega
    case rel=>exact⟨i+1,by have:=HLT.out;omega,by go_num,by have:=HAI.out;omega,HE.out⟩
  ·obtain rfl:i=z:=by omega
   have hiz:¬(i:Int)<(i:Int):=by omega
   have hil:i<l.length:=HZ.out.1
   have hin:i<n:=by rw[HL.out];exact hil
   have hizn:(i:Int)<(n:Int):=by omega
   obtain⟨us,cb,hks,hcz,hbc,hc6,-⟩:=fl_proc HRT.out hil HZ.out.2.1
   obtain⟨bA,off,K,cK,rfl,xt,x0,x1,x2,x3,x4,xI⟩:=node_at HT.out.nds hW.b i hil
   rw[<- Tr.nth_eq hil,hks]at x4 xI
   obtain⟨m1,hm1⟩:∃m1,us.length=m1:=⟨_,rfl⟩
   have hml:(us++[(cb:Int)]).length=m1+1:=by rw[List.length_append,hm1];rfl
   rw[hml]at x4
   obtain⟨kk,off2,rfl,hkl,hkc⟩:=xI (by rw[hml];omega)
   have q1:=hkc m1 (by omega)
   have hlast:(us++[(cb:Int)])[m1]'(by omega)=(cb:Int):=by simp[<- hm1]
   rw[hlast]at q1
   have y1:W3.cell? ⟨kk,off2+m1,none⟩=some (.int .i64 (cb:Int)):=(hW.b.cell (p:=⟨kk,off2+m1,none⟩) (by first|exact hkl |exact Nat.lt_of_lt_of_le hkl (Nat.le_refl _))).trans q1
   have hm4:m1+1<=4000:=by have:=fl_few HRT.out hil;rw[hks,hml]at this;have:=HNB.out.2.2;omega
   obtain⟨gb,cap,hV,hgb,hc1,hc2,hGR⟩:=hW.gn.gr (by simp[endsG];omega)
   obtain⟨N,hN⟩:∃N,(G++endsG i np++rowG l np a i).length=N:=⟨_,rfl⟩
   have hNe:N=N0+3+(stsL l a i).length:=by rw[<- hN,List.length_append,List.length_append,HNN.out];simp[endsG,rowG]
   rw[hN]at hV hc1
   subst hV
   obtain⟨G1,hG1⟩:∃G1,G++endsG i np++rowG l np a i=G1:=⟨_,rfl⟩
   rw[hG1]at hW hGR hN HW3
   have t0:=(hW.bx.cell 0).trans rfl
   have t3:=(hW.bx.cell 3).trans rfl
   obtain⟨sp',hsp'⟩:∃sp',spA l sp (N0+3) a i=sp':=⟨_,rfl⟩
   rw[hsp']at hW HW3
   have hFl:FlOk l sp' N:=flok_of HRT.out HNB.out.2.2 λq hq hst=>by
    rw[<- hsp']
    by_cases hr:a<=q/\q<i
    ·exact⟨_,spA_in hr.1 hr.2 hst,by have:=stsL_lt (l:=l) hr.1 hr.2 hst;omega⟩
    ·obtain⟨j,e1,e2⟩:=HSP.out q hq hst
     exact⟨j,by unfold spA;rw[if_neg (λe=>hr e.1)];exact e1,by omega⟩
   have hXl:∀b,XU sb U1 b->b<W3.heap.size:=λb e=>by
    rcases e with rfl |e
    ·exact hW.st.lt
    ·exact(hW.pw.lt b e).2
   have hP1:(blG l R sp' l.length G1 cb ((N0:Int)+1) ((N0:Int)+2) ((N0:Int)+1)).1.length=N:=(blG_len _ _ _ _ _ _ _ _ _).trans hN
   have HPR:=hid (show prG l R (np:Int) G sp a i=(wayG (blG l R sp' l.length G1 cb ((N0:Int)+1) ((N0:Int)+2) ((N0:Int)+1)).1 N0 [(blG l R sp' l.length G1 cb ((N0:Int)+1) ((N0:Int)+2) ((N0:Int)+1)).2] none,sp')from by
    unfold prG
    dsimp only
    have hgl:((us++[(cb:Int)]).getLastD 0).toNat=cb:=by simp
    rw[HNN.out,hsp',hG1,hks,hgl]
    rfl)
   have HBL:=hid ((stbl_any (X:=XU sb U1) HT.out hFl l.length).2 cb W3 G1 ((N0:Int)+1) ((N0:Int)+2) ((N0:Int)+1) hW.sce hXl hGR hN (by omega) (by omega) hc6)
   obtain⟨⟨G2,bg⟩,hr⟩:∃r,blG l R sp' l.length G1 cb ((N0:Int)+1) ((N0:Int)+2) ((N0:Int)+1)=r:=⟨_,rfl⟩
   rw[hr]at HPR HBL hP1
   have HPP:=hid (And.intro hP1 (And.intro hXl (And.intro hc1 (And.intro hc2 hNe))))
   have hN0N:(N0:Int)<(N:Int):=by omega
   have hm1z:(m1:Int)<(m1:Int)+1:=by omega
   clear hks x0 x1 x2 x3 xI hm1 hml hkl hkc q1 hlast hgb hc1 hc2 hGR hN hNe hG1 hsp' hFl hXl hP1 hr hW hF hi hlt hai hcz hbc hc6 HGK
   go_upto_region 9 with(go_at_call 137;refine HBL.out.mono ?_;rintro e w5 ⟨rfl,hf5,hg5⟩)
   have hd5:=HW3.out.done hf5 hg5 HPP.out.1 HPP.out.2.2.1 HPP.out.2.2.2.1
   have s3:=(hd5.1.bx.cell 3).trans rfl
   have HF5:=hid (HF3.out.trans hd5.2)
   have hg6:=hg5.below (heap1 w5 (.cells #[.int .i64 bg] 3))
   obtain⟨cs6,hb6,hcl6,hcc6⟩:=id hg6
   have hN2:N0<G2.length:=by rw[HPP.out.1];omega
   obtain⟨-,-,-,-,K0,c0,hc0,-⟩:=hcc6 N0 hN2
   have u3:=(hb6.cell (N0*5+3)).trans hc0
   have fu3:=hb6.frozen (N0*5+3)
   have hkd6:=kd_newF w5 (XU sb U1) [bg] (λb hb=>Nat.lt_of_lt_of_le (HPP.out.2.1 b hb) hf5.size)
   have hn6:=hg6.next (i:=N0) hN2 (c:=1) hkd6
   have hE:=(hd5.1.below (heap1 w5 (.cells #[.int .i64 bg] 3))).done hn6.2 hn6.1 (by rw[wayG_len];exact HPP.out.1) HPP.out.2.2.1 HPP.out.2.2.2.1
   have HE:=hid (And.intro (HF5.out.trans ((Fr.of (heap1 w5 (.cells #[.int .i64 bg] 3))).trans hE.2)) hE.1)
   clear hd5 hg6 hb6 hcl6 hcc6 hc0 hkd6 hn6 hE hf5 hg5
   go_wp2
   go_end0
   refine⟨rfl,HE.out.1,.slice (some ⟨gb,0,none⟩) N cap,U1,?_⟩
   rw[HPR.out]
   exact HE.out.2
end
end Go.Proofs.YtedkgofehbecmaaGreatDoor
