/- PROVED here: parts N36 of the claim. No condition but those in each theorem's own head. -/
import Derived.Test.YtedkgofehbecmaaGreatDoorU33
import Derived.Test.YtedkgofehbecmaaGreatDoorU31
import Derived.Test.YtedkgofehbecmaaGreatDoorU25
import Derived.Test.YtedkgofehbecmaaGreatDoorU26
import Derived.Deep.LoopGhost
import Derived.Deep.RegionHeld
import Derived.OrdersHeld
namespace Go.Proofs.YtedkgofehbecmaaGreatDoor
open Go.Lib (hid)
open Go Go.RowKit
open Tr (Bx heap1 bt Nds Ints VPost BPost rgB)
section
variable {w:World} {l:List Tr.Nd} {A O:Option Addr} {n bd bp:Nat}
set_option maxRecDepth 100000 in
set_option maxHeartbeats 1500000 in
theorem fault_any (h:Prg w l A n O bd bp)(hcp:Caps w A l)(c co p:Nat)(hp:p<n)(hF:NdF l p):Calls Tryz.prog 133 #[PrV A n c O co bd bp,.int .i64 (p:Int)] w (Tr.IPost (fauA l p) w):=by
 unfold PrV
 have hb0:=heap1 w (.cells #[.slice A n c,.slice O n co,.map (some bd),.map (some bp)] 87)
 have hX:=Bx.new w 87 [.slice A n c,.slice O n co,.map (some bd),.map (some bp)]
 obtain⟨W0,hW0⟩:∃W0,w.alloc (.cells #[.slice A n c,.slice O n co,.map (some bd),.map (some bp)] 87)=W0:=⟨_,rfl⟩
 rw[hW0]at hb0 hX
 have HB0:=hid hb0
 have HX:=hid hX
 have b0:=(hX.cell 0).trans rfl
 have b1:=(hX.cell 1).trans rfl
 have b2:=(hX.cell 2).trans rfl
 have b3:=(hX.cell 3).trans rfl
 clear hX
 have HTK:=hid (λW (hb:Below W0.heap.size W0 W)=>isTaken_any (h.below (bt hb0 hb)) c co p hp)
 have HUK:=hid (λW (hb:Below W0.heap.size W0 W)=>isUnknown_any (h.below (bt hb0 hb)) c co p hp hF)
 have HMT:=hid (λW (hb:Below W0.heap.size W0 W) (hu:unkB l p=false)=>isMistyped_any (h.below (bt hb0 hb)) (hcp.below h.nds (bt hb0 hb)) c co p hp hF hu)
 unfold PrV at HTK HUK HMT
 unfold fauA
 clear h hcp hF hp hb0
 cases ht:takB l p with
 |true=>
  have HC1:=hid (HTK.out _ (Below.refl _ _))
  rw[ht]at HC1
  rw[if_pos rfl]
  clear HTK HUK HMT ht
  go_enter Tryz.func133,Tryz.ntmps133
  try rw[hW0]
  go_wp2_with (go_at_call 184;refine HC1.out.mono ?_)
  rintro e w1 ⟨rfl,hq1⟩
  have hb1:=hq1
  have HB1:=hid hb1
  clear hb1 hq1
  go_wp2
  go_ret
  exact⟨rfl,bt HB0.out HB1.out⟩
 |false=>
  have HC1:=hid (HTK.out _ (Below.refl _ _))
  rw[ht]at HC1
  rw[if_neg (by decide)]
  clear HTK ht
  cases hu:unkB l p with
  |true=>
   rw[if_pos rfl]
   clear HMT
   go_enter Tryz.func133,Tryz.ntmps133
   go_wp2_with (go_at_call 184;refine HC1.out.mono ?_)
   rintro e w1 ⟨rfl,hq1⟩
   have hb1:=hq1
   have HB1:=hid hb1
   have hBa:=HX.out.below hb1 HX.out.lt
   have c0:=(hBa.cell 0).trans rfl
   have c1:=(hBa.cell 1).trans rfl
   have c2:=(hBa.cell 2).trans rfl
   have c3:=(hBa.cell 3).trans rfl
   clear hBa
   have HC2:=hid (HUK.out _ hb1)
   rw[hu]at HC2
   clear hb1 hq1 hu HUK
   go_wp2_with (go_at_call 185;refine HC2.out.mono ?_)
   rintro e w2 ⟨rfl,hq2⟩
   have hb2:=bt HB1.out hq2
   have HB2:=hid hb2
   clear hb2 hq2
   go_wp2
   go_ret
   exact⟨rfl,bt HB0.out HB2.out⟩
  |false=>
   rw[if_neg (by decide)]
   cases hm:misB l p with
   |true=>
    rw[if_pos rfl]
    go_enter Tryz.func133,Tryz.ntmps133
    go_wp2_with (go_at_call 184;refine HC1.out.mono ?_)
    rintro e w1 ⟨rfl,hq1⟩
    have hb1:=hq1
    have HB1:=hid hb1
    have hBa:=HX.out.below hb1 HX.out.lt
    have c0:=(hBa.cell 0).trans rfl
    have c1:=(hBa.cell 1).trans rfl
    have c2:=(hBa.cell 2).trans rfl
    have c3:=(hBa.cell 3).trans rfl
    clear hBa
    have HC2:=hid (HUK.out _ hb1)
    rw[hu]at HC2
    clear hb1 hq1
    go_wp2_with (go_at_call 185;refine HC2.out.mono ?_)
    rintro e w2 ⟨rfl,hq2⟩
    have hb2:=bt HB1.out hq2
    have HB2:=hid hb2
    have hBa:=HX.out.below hb2 HX.out.lt
    have d0:=(hBa.cell 0).trans rfl
    have d1:=(hBa.cell 1).trans rfl
    have d2:=(hBa.cell 2).trans rfl
    have d3:=(hBa.cell 3).trans rfl
    clear hBa
    have HC3:=hid (HMT.out _ hb2 hu)
    rw[hm]at HC3
    clear hb2 hq2 hm hu HUK HMT c0 c1 c2 c3
    go_wp2_with (go_at_call 186;refine HC3.out.mono ?_)
    rintro e w3 ⟨rfl,hq3⟩
    have hb3:=bt HB2.out hq3
    have HB3:=hid hb3
    clear hb3 hq3
    go_wp2
    go_ret
    exact⟨rfl,bt HB0.out HB3.out⟩
   |false=>
    rw[if_neg (by decide)]
    go_enter Tryz.func133,Tryz.ntmps133
    go_wp2_with (go_at_call 184;refine HC1.out.mono ?_)
    rintro e w1 ⟨rfl,hq1⟩
    have hb1:=hq1
    have HB1:=hid hb1
    have hBa:=HX.out.below hb1 HX.out.lt
    have c0:=(hBa.cell 0).trans rfl
    have c1:=(hBa.cell 1).trans rfl
    have c2:=(hBa.cell 2).trans rfl
    have c3:=(hBa.cell 3).trans rfl
    clear hBa
    have HC2:=hid (HUK.out _ hb1)
    rw[hu]at HC2
    clear hb1 hq1
    go_wp2_with (go_at_call 185;refine HC2.out.mono ?_)
    rintro e w2 ⟨rfl,hq2⟩
    have hb2:=bt HB1.out hq2
    have HB2:=hid hb2
    have hBa:=HX.out.below hb2 HX.out.lt
    have d0:=(hBa.cell 0).trans rfl
    have d1:=(hBa.cell 1).trans rfl
    have d2:=(hBa.cell 2).trans rfl
    have d3:=(hBa.cell 3).trans rfl
    clear hBa
    have HC3:=hid (HMT.out _ hb2 hu)
    rw[hm]at HC3
    clear hb2 hq2 hm hu HUK HMT c0 c1 c2 c3
    go_wp2_with (go_at_call 186;refine HC3.out.mono ?_)
    rintro e w3 ⟨rfl,hq3⟩
    have hb3:=bt HB2.out hq3
    have HB3:=hid hb3
    clear hb3 hq3
    go_wp2
    go_ret
    exact⟨rfl,bt HB0.out HB3.out⟩
end
structure TT (w:World) (A:Option Addr) (n:Nat) (l:List Tr.Nd):Prop where
 nds:Nds w A l
 len:n=l.length
 kids:∀x ∈ l,x.ks.length<=4000
 text:∀x ∈ l,x.tx.size<=281474976710656
 num:∀x ∈ l,x.n<=9223372036854775807
 caps:Caps w A l
theorem TT.below {w w':World}{A:Option Addr}{n:Nat}{l:List Tr.Nd}(h:TT w A n l)(hb:Below w.heap.size w w'):TT w' A n l:=
 ⟨h.nds.below hb,h.len,h.kids,h.text,h.num,h.caps.below h.nds hb⟩
theorem TT.right {w:World}{A:Option Addr}{n:Nat}{l:List Tr.Nd}(h:TT w A n l)(c:Nat)(r:Int):Calls Tryz.prog 103 #[.agg #[.slice A n c,.int .i64 r]] w (BPost (rgB l r) w):=Tr.right_any A c n l r w h.nds h.len h.kids h.text h.num
def RPost (L:List Tr.Nd)(w:World)(e:Ending)(w':World):Prop:=
 ∃A n c O co bd bp,e = .returned (PrV A n c O co bd bp)/\Prg w' L A n O bd bp/\Caps w' A L/\Below w.heap.size w w'
theorem read_any {w:World}{A:Option Addr}{n:Nat}{l:List Tr.Nd}(h:TT w A n l)(c:Nat)(r:Int):Calls Tryz.prog 68 #[.agg #[.slice A n c,.int .i64 r]] w (RPost (eff l r) w):=by
 have HR:∀w',Below w.heap.size w w'->Calls Tryz.prog 103 #[.agg #[.slice A n c,.int .i64 r]] w' (BPost (rgB l r) w'):=λw' hb=>(h.below hb).right c r
 cases hr:rgB l r with
 |true=>
  rw[hr]at HR
  rw[eff_yes hr]
  obtain⟨⟨b,hb⟩,h4,_⟩:=rtn_of hr
  have h1:=hb.len
  have hl:=h.len
  refine callsIn_wide.1 (read_go A c n r l w h.nds h.len (by omega) (by omega) h.text HR _ (hid ?_))
  rintro e w' ⟨n',c',O,co,bd,bp,rfl,hn,hbw,hO,hd,hp⟩
  obtain rfl:n'=n:=by omega
  exact⟨A,n',c',O,co,bd,bp,rfl,⟨h.nds.below hbw,h.len,by omega,hO,hd,hp,h.kids,h.text,snd_ahead (rg_parts hr).1⟩,h.caps.below h.nds hbw,hbw⟩
 |false=>
  rw[hr]at HR
  rw[eff_no hr]
  refine callsIn_wide.1 (read_no A c n r w HR _ (hid ?_))
  rintro e w' ⟨n',c',O,co,bd,bp,rfl,hn,hbw,hO,hd,hp⟩
  exact⟨none,n',c',O,co,bd,bp,rfl,⟨λh0=>absurd h0 (Nat.lt_irrefl 0),hn,by rw[hn];exact Nat.zero_le _,hO,hd,hp,λx hx=>(by cases hx),λx hx=>(by cases hx),λp hp=>absurd hp (Nat.not_lt_zero _)⟩,λp bA off K m c hp=>absurd hp (Nat.not_lt_zero _),hbw⟩
end Go.Proofs.YtedkgofehbecmaaGreatDoor
namespace Go.Proofs.YtedkgofehbecmaaGreatDoor
open Go.Lib (hid)
open Go Go.RowKit
open Tr (Bx heap1 bt Nds Ints BPost IPost rgB par paL par_yes par_node IsPost Snd StU)
def mkQ (n:Nat)(m:Nat->Bool):Array Value:=Array.ofFn (n:=n) λi =>.bool (m i)
theorem mkQ_size (n:Nat)(m:Nat->Bool):(mkQ n m).size=n:=by simp[mkQ]
theorem mkQ_get {n:Nat}{m:Nat->Bool}{i:Nat}(h:i<n):(mkQ n m)[i]?=some (.bool (m i)):=by simp[mkQ,h]
theorem mkQ_set {n:Nat}{m:Nat->Bool}{i:Nat}{x:Bool}:(mkQ n m).setIfInBounds i (.bool x)=mkQ n (λj=>if j=i then x else m j):=by
 apply Array.ext_getElem?
 intro j
 rw[Array.getElem?_setIfInBounds]
 by_cases h:i=j
 ·subst h
  by_cases hk:i<n<;>simp[mkQ,hk]
 ·have h':¬j=i:=λe=>h e.symm
  rw[if_neg h]
  by_cases hi:j<n
  ·rw[mkQ_get hi,mkQ_get hi,if_neg h']
  ·rw[Array.getElem?_eq_none (by rw[mkQ_size];omega),Array.getElem?_eq_none (by rw[mkQ_size];omega)]
theorem mkQ_congr {n:Nat}{m m':Nat->Bool}(h:∀i,i<n->m i=m' i):mkQ n m=mkQ n m':=by
 unfold mkQ;congr 1;funext i;rw[h i i.2]
def Bb (w:World)(g n:Nat)(m:Nat->Bool):Prop:=w.heap[g]?=some (.cells (mkQ n m) 4 (0,0))
section
variable {w w':World} {g n:Nat} {m:Nat->Bool}
theorem Bb.lt (h:Bb w g n m):g<w.heap.size:=(Array.getElem?_eq_some_iff.1 h).1
theorem Bb.cell (h:Bb w g n m){i:Nat}(hi:i<n):w.cell? ⟨g,i,none⟩=some (.bool (m i)):=(cell_of_row w g i _ 4 (0,0) h).trans (mkQ_get hi)
theorem Bb.frozen (h:Bb w g n m)(i:Nat):w.frozen? ⟨g,i,none⟩=false:=frozen_of_row w g i _ 4 h
theorem Bb.set_ (h:Bb w g n m)(i:Nat)(x:Bool):Bb (w.setCell ⟨g,i,none⟩ (.bool x)) g n (λj=>if j=i then x else m j):=(heap_setCell_same w g i _ 4 _ h).trans (by rw[mkQ_set])
theorem Bb.far (h:Bb w g n m){p:Addr}(hp:g≠p.block)(u:Value):Bb (w.setCell p u) g n m:=(heap_setCell_other w p g u hp).trans h
theorem Bb.below {B:Nat}(h:Bb w g n m)(hb:Below B w w')(hg:g<B):Bb w' g n m:=(hb.block g hg).trans h
theorem Bb.congr {m':Nat->Bool}(h:Bb w g n m)(e:∀i,i<n->m i=m' i):Bb w g n m':=by unfold Bb at *;rw[h,mkQ_congr e]
end
theorem info4:(Tryz.prog.info? 4).map (λi=>(i.zero,i.size,i.bytes))=some (some (.bool false),1,1):=by kernel_rfl
theorem madeT (n:Nat):madeCells #[.bool false] n=mkQ n (λ_=>false):=by
 apply Array.ext_getElem?
 intro j
 by_cases h:j<n
 ·rw[mkQ_get h];simp[madeCells,h,Nat.mod_one]
 ·rw[Array.getElem?_eq_none (by simp[madeCells];omega),Array.getElem?_eq_none (by rw[mkQ_size];omega)]
theorem make104 (n:Nat)(hn:n<=4000000000)(w:World):(Instr.makeSlice 74 (.int .i64 (n:Int)) (.int .i64 (n:Int))).run Tryz.prog w = .ok (.slice (some ⟨w.heap.size,0,none⟩) n n) (w.alloc (.cells (mkQ n (λ_=>false)) 4)):=by
 have h:=info4
 cases hq:Tryz.prog.info? 4 with
 |none=>rw[hq]at h;cases h
 |some i=>
  rw[hq]at h
  simp only[Option.map_some,Option.some.injEq,Prod.mk.injEq]at h
  obtain⟨h1,h2,h3⟩:=h
  have:=run_make (P:=Tryz.prog) w 74 4 i (.bool false) Tryz.underlying74 hq h1 .i64 .i64 (n:Int) (n:Int) (by omega) (Int.le_refl _) (by rw[h3];omega) (by omega)
  rw[this,h2]
  simp only[Int.toNat_natCast,Nat.mul_one]
  rw[show(Value.bool false).cells = #[.bool false]from rfl,madeT]
noncomputable def rsF (l:List Tr.Nd)(r:Int):Nat->Nat->Bool
 |0=>λ_=>false
 |k+1=>
  let R:=rsF l r k
  let R1:=λj=>if selfB (Tr.nth l k)=true/\j=k then true else R j
  λj=>if (R1 k&&exqB (Tr.nth l k).kd)=true/\(j:Int)=(par l r).getD k 0 then true else R1 j
theorem if_cast (j m:Nat)(a b:Bool):(if true=true/\(j:Int)=(m:Int) then a else b)=if j=m then a else b:=by
 by_cases e:j=m
 ·subst e;simp
 ·have e2:¬((j:Int)=(m:Int)):=by omega
  simp[e,e2]
def RsPost (l:List Tr.Nd)(r:Int)(n:Nat)(w:World)(e:Ending)(w':World):Prop:=∃g,e = .returned (.slice (some ⟨g,0,none⟩) n n)/\Bb w' g n (rsF l r n)/\w.heap.size<=g/\Below w.heap.size w w'
section
variable {w:World} {l:List Tr.Nd} {A:Option Addr} {n:Nat}
set_option maxRecDepth 100000 in
set_option maxHeartbeats 4000000 in
theorem raising_any (h:TT w A n l)(c:Nat)(r:Int)(hr:rgB l r=true):Calls Tryz.prog 56 #[.agg #[.slice A n c,.int .i64 r]] w (RsPost l r n w):=by
 obtain⟨⟨b0,hRt⟩,h4,hrr⟩:=rtn_of hr
 have hsd:=(rg_parts hr).1
 have hpl:(par l r).length=l.length:=by rw[par_yes hsd,List.length_map,List.length_range]
 have hpe:∀k,k<l.length->20<=(Tr.nth l k).kd->(Tr.nth l k).kd<=27->∃m:Nat,m<l.length/\(par l r).getD k 0=(m:Int):=λk hk h1 h2=>by
  obtain⟨b,s1,s2,s3,s4,s5⟩:=hsd
  have hkl:k<l.length-1:=by
   apply Classical.byContradiction
   intro q
   have e:k=l.length-1:=by omega
   have:=(rg_parts hr).2.1
   unfold ndA at this
   rw[Int.toNat_natCast,<- e]at this
   omega
  obtain⟨m,a1,a2,a3,_⟩:=par_node s4 s5 hkl
  refine⟨m,a1,?_⟩
  rw[List.getD_eq_getElem?_getD,par_yes ⟨b,s1,s2,s3,s4,s5⟩,List.getElem?_map,List.getElem?_range (by omega)]
  exact a3
 have HPE:=hid hpe
 have HPL:=hid hpl
 have HN:=hid h.nds
 have hl:=h.len
 have HL:=hid hl
 have hb0:=heap1 w (.cells #[.slice A n c,.int .i64 r] 24)
 have HPA:=hid (Tr.parents_any A c n l r _ (h.nds.below hb0) h.len h.kids)
 have HX:=hid (Bx.new w 24 [.slice A n c,.int .i64 r])
 have HB0:=hid hb0
 have hn4:n<=4000:=by omega
 obtain⟨W0,hW0⟩:∃W0,w.alloc (.cells #[.slice A n c,.int .i64 r] 24)=W0:=⟨_,rfl⟩
 rw[hW0]at HPA HX HB0
 have a0:=(HX.out.cell 0).trans rfl
 have a1:=(HX.out.cell 1).trans rfl
 obtain⟨P,hP⟩:∃P,par l r=P:=⟨_,rfl⟩
 rw[hP]at HPA HPL HPE
 have HP:=hid hP
 clear h hl hb0 hRt hsd hpl hpe h4 hrr hP hr
 go_enter Tryz.func56,Tryz.ntmps56
 go_wp2_with (go_at_call 96;refine HPA.out.mono ?_)
 rintro e w1 ⟨PA,pc,rfl,hPI,hb1⟩
 have hPn:P.length=n:=by rw[HPL.out,HL.out]
 rw[hPn]
 have HX1:=hid (HX.out.below hb1 HX.out.lt)
 have HB1:=hid (bt HB0.out hb1)
 have HPI:=hid hPI
 have HPn:=hid hPn
 clear a0 a1 hb1 hW0 hPI hPn
 have a0:=(HX1.out.cell 0).trans rfl
 have hmk:=λw'=>make104 n (by omega) w'
 have hb2:Below w1.heap.size w1 (w1.alloc (.cells (mkQ n (λ_=>false)) 4)):=heap1 _ _
 have hBb:Bb (w1.alloc (.cells (mkQ n (λ_=>false)) 4)) w1.heap.size n (λ_=>false):=World.alloc_heap_new w1 _
 have HW2:=hid (And.intro hb2 hBb)
 clear hb2 hBb
 go_upto_region 3 with(fail)
 clear hmk
 obtain⟨W2,hW2⟩:∃W2,w1.alloc (.cells (mkQ n (λ_=>false)) 4)=W2:=⟨_,rfl⟩
 rw[hW2]at HW2 |-
 obtain⟨g0,hg0⟩:∃g0,w1.heap.size=g0:=⟨_,rfl⟩
 have HX2:=hid (HX1.out.below HW2.out.1 HX1.out.lt)
 have HP2:=hid (HPI.out.below HW2.out.1)
 have HB2:=hid (bt HB1.out HW2.out.1)
 have HG:=hid (show w.heap.size<g0/\g0<W2.heap.size from⟨by rw[<- hg0];exact HX1.out.lt,by rw[<- hg0];exact HW2.out.2.lt⟩)
 have HBB:=hid (show Bb W2 g0 n (λ_=>false)by rw[<- hg0];exact HW2.out.2)
 have HPB:=hid (show 0<n->∃bP oP,PA=some ⟨bP,oP,none⟩/\bP<g0/\∀j (hj:j<P.length),W2.cell? ⟨bP,oP+j,none⟩=some (.int .i64 P[j])from λh=>by
  obtain⟨bP,oP,e,h1,h2⟩:=HPI.out (by rw[HPn.out];exact h)
  exact⟨bP,oP,e,by rw[<- hg0];exact h1,λj hj=>(HW2.out.1.cell (p:=⟨bP,oP+j,none⟩) h1).trans (h2 j hj)⟩)
 rw[hg0]
 clear hW2 hg0 a0 HW2
 have a0:=(HX2.out.cell 0).trans rfl
 go_wp2
 clear a0
 go_loopg [16] n (λk v16 wr=>∃i:Nat,i+k=n/\v16 = .int .i64 (i:Int)/\Below g0 W2 wr/\Bb wr g0 n (rsF l r i))
 case atStart=>exact⟨0,Nat.zero_add _,rfl,(Below.refl _ _),HBB.out⟩
 case round=>
  obtain⟨i,hi,rfl,hb,hBb⟩:=hrel
  obtain⟨W3,rfl⟩:∃W3,W3=wr:=⟨_,rfl⟩
  have HGK:=hid hi
  have hg1:=HG.out.1
  have hg2:=HG.out.2
  have hsz:=hb.size
  have HB:=hid hb
  have HBB3:=hid hBb
  by_cases hlt:i<n
  ·have hiz:(i:Int)<(n:Int):=by omega
   have hil:i<l.length:=by rw[<- HL.out];exact hlt
   have hbw:Below w.heap.size w W3:=HB2.out.trans (hb.mono (by omega))
   obtain⟨bA,off,K,cK,rfl,xt,x0,x1,x2,x3,x4,_⟩:=node_at (HN.out.below hbw) (Below.refl _ W3) i hil
   have hnth:Tr.nth l i=l[i]:=Tr.nth_eq hil
   obtain⟨q,hq⟩:∃q,l[i]'hil=q:=⟨_,rfl⟩
   rw[hq]at x0 x1 x2 x3 x4 hnth
   obtain⟨kd,nn,pl,tx,ks⟩:=q
   dsimp only at x0 x1 x2 x3 x4
   obtain⟨mk,hmk⟩:∃mk,ks.length=mk:=⟨_,rfl⟩
   rw[hmk]at x4
   have hx:=Bx.new W3 50 [.int .i64 kd,.int .i64 nn,.int .i64 pl,.string tx,.slice K mk cK]
   have hbx:=heap1 W3 (.cells #[.int .i64 kd,.int .i64 nn,.int .i64 pl,.string tx,.slice K mk cK] 50)
   have HSF:=hid (self_any kd nn pl tx ks K mk cK)
   have HEX:=hid (isExq_any kd)
   have HRS:=hid (show∀j,rsF l r (i+1) j=if ((if selfB ⟨kd,nn,pl,tx,ks⟩=true/\i=i then true else rsF l r i i)&&exqB kd)=true/\(j:Int)=(par l r).getD i 0 then true else if selfB ⟨kd,nn,pl,tx,ks⟩=true/\j=i then true else rsF l r i j from λj=>by rw[rsF];dsimp only;rw[hnth])
   have HLT:=hid hlt
   have hpe:=HPE.out i hil
   rw[hnth]at hpe
   dsimp only at hpe
   have HPQ:=hid hpe
   obtain⟨bP,oP,rfl,hbP,hcP⟩:=HPB.out (by omega)
   have hPi:i<P.length:=by rw[HPn.out];exact hlt
   have xP:=(hb.cell (p:=⟨bP,oP+i,none⟩) hbP).trans (hcP i hPi)
   have hPg:P.getD i 0=P[i]'hPi:=by rw[List.getD_eq_getElem?_getD,List.getElem?_eq_getElem hPi];rfl
   rw[<- hPg]at xP
   obtain⟨pm,hpm⟩:∃pm,P.getD i 0=pm:=⟨_,rfl⟩
   rw[hpm]at xP
   have HPM:=hid hpm
   have HXP:=hid (And.intro hbP xP)
   rw[hpm]at hpe
   have HPQ:=hid hpe
   have hgx:g0<W3.heap.size:=hBb.lt
   have HGX:=hid hgx
   obtain⟨R,hR⟩:∃R,rsF l r i=R:=⟨_,rfl⟩
   rw[hR]at HRS HBB3
   have HRR:=hid (show∀j,rsF l r (i+1) j=if ((if selfB ⟨kd,nn,pl,tx,ks⟩=true then true else R i)&&exqB kd)=true/\(j:Int)=pm then true else if selfB ⟨kd,nn,pl,tx,ks⟩=true/\j=i then true else R j from λj=>by rw[HRS.out,HP.out,HPM.out];simp only[and_true])
   obtain⟨W4,hW4⟩:∃W4,W3.alloc (.cells #[.int .i64 kd,.int .i64 nn,.int .i64 pl,.string tx,.slice K mk cK] 50)=W4:=⟨_,rfl⟩
   rw[hW4]at hbx
   have HX4:=hid (show Bx W4 W3.heap.size 50 [.int .i64 kd,.int .i64 nn,.int .i64 pl,.string tx,.slice K mk cK]by rw[<- hW4];exact hx)
   have HB4:=hid (show Below g0 W2 W4 from hb.trans (hbx.mono (by omega)))
   have HBB4:=hid (HBB3.out.below hbx hgx)
   have HB34:=hid (show Below g0 W3 W4 from hbx.mono (by omega))
   have hC:=self_any kd nn pl tx ks K mk cK W4
   have HC:=hid hC
   have HZ3:=hid (show W3.heap.size<W4.heap.size from HX4.out.lt)
   clear hx hbx hi hb hBb hlt hq hmk hnth hpe hsz hbP hcP hPi xP hPg hpm hR hC hbw
   obtain⟨z3,hz3⟩:∃z3,W3.heap.size=z3:=⟨_,rfl⟩
   rw[hz3]at HX4 HGX HZ3
   have n0:=(HX4.out.cell 0).trans rfl
   have n1:=(HX4.out.cell 1).trans rfl
   have n2:=(HX4.out.cell 2).trans rfl
   have n3:=(HX4.out.cell 3).trans rfl
   have n4:=(HX4.out.cell 4).trans rfl
   cases hs:selfB ⟨kd,nn,pl,tx,ks⟩ with
   |true=>
    rw[hs]at HC
    have HR1:=hid (show∀j,rsF l r (i+1) j=if exqB kd=true/\(j:Int)=pm then true else if j=i then true else R j from λj=>by rw[HRR.out,hs];simp)
    clear hs
    go_wp2_with (go_at_call 97;refine HC.out.mono ?_)
    rintro e w5 ⟨rfl,hb5⟩
    have HB5:=hid (show Below g0 W2 w5 from HB4.out.trans (hb5.mono (by have:=HBB4.out.lt;omega)))
    have hX5:=HX4.out.below hb5 HX4.out.lt
    have hT5:=HBB4.out.below hb5 HBB4.out.lt
    have hT6:=hT5.set_ i true
    have hX6:=hX5.far (p:=⟨g0,i,none⟩) (by have:=HGX.out;show z3≠g0;omega) (.bool true)
    have HB6:=hid (HB5.out.setCell (p:=⟨g0,i,none⟩) (Nat.le_refl _) (.bool true))
    have HBX5:=hid ((HB34.out.trans (hb5.mono (by have:=HBB4.out.lt;omega))).setCell (p:=⟨g0,i,none⟩) (Nat.le_refl _) (.bool true))
    have t0:=hT5.cell (i:=i) (by omega)
    have tf:=hT5.frozen i
    clear n0 n1 n2 n3 n4 hb5
    go_upto_region 8 with(fail)
    obtain⟨W6,hW6⟩:∃W6,w5.setCell ⟨g0,i,none⟩ (.bool true)=W6:=⟨_,rfl⟩
    rw[hW6]at hT6 hX6 HB6 HBX5 |-
    clear hT5 hX5 t0 tf hW6
    have n0:=(hX6.cell 0).trans rfl
    have t0:W6.cell? ⟨g0,i,none⟩=some (.bool true):=(hT6.cell (i:=i) (by omega)).trans (by simp)
    have HBX:=hid (show Below g0 W3 W6 from HBX5.out)
    have HEX6:=hid (isExq_any kd W6)
    have HXP6:=hid (show W6.cell? ⟨bP,oP+i,none⟩=some (.int .i64 pm) from(HBX.out.cell (p:=⟨bP,oP+i,none⟩) HXP.out.1).trans HXP.out.2)
    cases he:exqB kd with
    |false=>
     rw[he]at HEX6
     have HRE:=hid (show∀j,rsF l r (i+1) j=(if j=i then true else R j)from λj=>by rw[HR1.out,he];simp)
     clear he
     go_wp2_with (go_at_call 98;refine HEX6.out.mono ?_)
     rintro e w7 ⟨rfl,hb7⟩
     have HE:=hid (And.intro (show Below g0 W2 w7 from HB6.out.trans (hb7.mono (by have:=hT6.lt;omega))) (show Bb w7 g0 n (rsF l r (i+1)) from(hT6.below hb7 hT6.lt).congr λj _=>by rw[HRE.out]))
     clear hT6 hX6 hb7
     go_wp2
     go_roundg (n-(i+1))
     case measure=>have:=HLT.out;have:=HGK.out;omega
     case rel=>exact⟨i+1,by have:=HLT.out;omega,by go_num,HE.out.1,HE.out.2⟩
    |true=>
     rw[he]at HEX6
     have hkk:20<=kd/\kd<=27:=by unfold exqB at he;simpa using he
     obtain⟨m,hm,hpm⟩:=HPQ.out hkk.1 hkk.2
     have HRE:=hid (show∀j,rsF l r (i+1) j=if j=m then true else (if j=i then true else R j)from λj=>by rw[HR1.out,he,hpm];exact if_cast j m _ _)
     have hmn:m<n:=by rw[HL.out];exact hm
     have hmz:(m:Int)<(n:Int):=by omega
     subst hpm
     clear he hkk hm
     go_wp2_with (go_at_call 98;refine HEX6.out.mono ?_)
     rintro e w7 ⟨rfl,hb7⟩
     have hT7:=hT6.below hb7 hT6.lt
     have xP:=(hb7.cell (p:=⟨bP,oP+i,none⟩) (by have:=HXP.out.1;have:=hT6.lt;show bP<W6.heap.size;omega)).trans HXP6.out
     have tm:=hT7.cell hmn
     have tf:=hT7.frozen m
     have hPi:(i:Int)<(n:Int):=by omega
     have HB7:=hid (HB6.out.trans (hb7.mono (by have:=hT6.lt;omega)))
     have HE:=hid (And.intro (show Below g0 W2 (w7.setCell ⟨g0,m,none⟩ (.bool true))from HB7.out.setCell (p:=⟨g0,m,none⟩) (Nat.le_refl _) (.bool true)) (show Bb (w7.setCell ⟨g0,m,none⟩ (.bool true)) g0 n (rsF l r (i+1)) from(hT7.set_ m true).congr λj _=>by rw[HRE.out]))
     clear hT6 hX6 hb7 hT7
     go_wp2
     go_roundg (n-(i+1))
     case measure=>have:=HLT.out;have:=HGK.out;omega
     case rel=>exact⟨i+1,by have:=HLT.out;omega,by go_num,HE.out.1,HE.out.2⟩
   |false=>
    rw[hs]at HC
    have HR1:=hid (show∀j,rsF l r (i+1) j=if (R i&&exqB kd)=true/\(j:Int)=pm then true else R j from λj=>by rw[HRR.out,hs];simp)
    clear hs
    go_wp2_with (go_at_call 97;refine HC.out.mono ?_)
    rintro e w5 ⟨rfl,hb5⟩
    have HB6:=hid (show Below g0 W2 w5 from HB4.out.trans (hb5.mono (by have:=HBB4.out.lt;omega)))
    have HBX5:=hid (HB34.out.trans (hb5.mono (by have:=HBB4.out.lt;omega)))
    have hX6:=HX4.out.below hb5 HX4.out.lt
    have hT6:=HBB4.out.below hb5 HBB4.out.lt
    obtain⟨W6,rfl⟩:∃W6,W6=w5:=⟨_,rfl⟩
    clear n0 n1 n2 n3 n4 hb5
    have n0:=(hX6.cell 0).trans rfl
    have HT6:=hid hT6
    cases hri:R i with
    |false=>
     have t0:W6.cell? ⟨g0,i,none⟩=some (.bool false):=(hT6.cell (i:=i) (by omega)).trans (by rw[hri])
     have HE:=hid (show Bb W6 g0 n (rsF l r (i+1))from hT6.congr λj _=>by rw[HR1.out,hri];simp)
     clear hT6 hX6 hri
     go_wp2
     go_roundg (n-(i+1))
     case measure=>have:=HLT.out;have:=HGK.out;omega
     case rel=>exact⟨i+1,by have:=HLT.out;omega,by go_num,HB6.out,HE.out⟩
    |true=>
     have t0:W6.cell? ⟨g0,i,none⟩=some (.bool true):=(hT6.cell (i:=i) (by omega)).trans (by rw[hri])
     have HR2:=hid (show∀j,rsF l r (i+1) j=if exqB kd=true/\(j:Int)=pm then true else R j from λj=>by rw[HR1.out,hri];simp)
     clear hri
     have HBX:=hid (show Below g0 W3 W6 from HBX5.out)
     have HEX6:=hid (isExq_any kd W6)
     have HXP6:=hid (show W6.cell? ⟨bP,oP+i,none⟩=some (.int .i64 pm) from(HBX.out.cell (p:=⟨bP,oP+i,none⟩) HXP.out.1).trans HXP.out.2)
     cases he:exqB kd with
     |false=>
      rw[he]at HEX6
      have HRE:=hid (show∀j,rsF l r (i+1) j=R j from λj=>by rw[HR2.out,he];simp)
      clear he
      go_wp2_with (go_at_call 98;refine HEX6.out.mono ?_)
      rintro e w7 ⟨rfl,hb7⟩
      have HE:=hid (And.intro (show Below g0 W2 w7 from HB6.out.trans (hb7.mono (by have:=hT6.lt;omega))) (show Bb w7 g0 n (rsF l r (i+1)) from(hT6.below hb7 hT6.lt).congr λj _=>by rw[HRE.out]))
      clear hT6 hX6 hb7
      go_wp2
      go_roundg (n-(i+1))
      case measure=>have:=HLT.out;have:=HGK.out;omega
      case rel=>exact⟨i+1,by have:=HLT.out;omega,by go_num,HE.out.1,HE.out.2⟩
     |true=>
      rw[he]at HEX6
      have hkk:20<=kd/\kd<=27:=by unfold exqB at he;simpa using he
      obtain⟨m,hm,hpm⟩:=HPQ.out hkk.1 hkk.2
      have HRE:=hid (show∀j,rsF l r (i+1) j=if j=m then true else R j from λj=>by rw[HR2.out,he,hpm];exact if_cast j m _ _)
      have hmn:m<n:=by rw[HL.out];exact hm
      have hmz:(m:Int)<(n:Int):=by omega
      subst hpm
      clear he hkk hm
      go_wp2_with (go_at_call 98;refine HEX6.out.mono ?_)
      rintro e w7 ⟨rfl,hb7⟩
      have hT7:=hT6.below hb7 hT6.lt
      have xP:=(hb7.cell (p:=⟨bP,oP+i,none⟩) (by have:=HXP.out.1;have:=hT6.lt;show bP<W6.heap.size;omega)).trans HXP6.out
      have tm:=hT7.cell hmn
      have tf:=hT7.frozen m
      have hPi:(i:Int)<(n:Int):=by omega
      have HB7:=hid (HB6.out.trans (hb7.mono (by have:=hT6.lt;omega)))
      have HE:=hid (And.intro (show Below g0 W2 (w7.setCell ⟨g0,m,none⟩ (.bool true))from HB7.out.setCell (p:=⟨g0,m,none⟩) (Nat.le_refl _) (.bool true)) (show Bb (w7.setCell ⟨g0,m,none⟩ (.bool true)) g0 n (rsF l r (i+1)) from(hT7.set_ m true).congr λj _=>by rw[HRE.out]))
      clear hT6 hX6 hb7 hT7
      go_wp2
      go_roundg (n-(i+1))
      case measure=>have:=HLT.out;have:=HGK.out;omega
      case rel=>exact⟨i+1,by have:=HLT.out;omega,by go_num,HE.out.1,HE.out.2⟩
  ·obtain rfl:i=n:=by omega
   have hiz:¬(i:Int)<(i:Int):=by omega
   have HE:=hid (show Below w.heap.size w W3 from HB2.out.trans (hb.mono (by omega)))
   clear hi hb hBb hlt
   go_wp2
   go_ret
   exact⟨g0,rfl,HBB3.out,by omega,HE.out⟩
end
end Go.Proofs.YtedkgofehbecmaaGreatDoor
namespace Go.Proofs.YtedkgofehbecmaaGreatDoor.Fl
open Go.Lib (hid)
open Go Go.RowKit
section
variable {ops:Array Oper} {Q:Exit->Act->World->Prop} {S:World->Prop} {fuel:Nat} {listed:Array Bool} {a:Act} {w:World} {o:Oper} {K:Act->World->Prop}
theorem ap:(∀(a:Act) (t:Tmp) (v:Value),a.put (some t) v = { a with tmps:=a.tmps.setIfInBounds t v })/\(∀ {α:Type} (l:List α) (i:Nat) (v:α),l.toArray.setIfInBounds i v=(l.set i v).toArray)/\(∀ {α:Type} (x:α) (l:List α) (v:α),(x :: l).set 0 v=v :: l)/\∀ {α:Type} (x:α) (l:List α) (i:Nat) (v:α),(x :: l).set (i+1) v=x :: l.set i v:=
 ⟨λ_ _ _=>rfl,λl i v=>List.setIfInBounds_toArray l i v,λ_ _ _=>rfl,λ_ _ _ _=>rfl⟩
theorem hpu (i:Nat)(v:Value){o:Oper}{t:Tmp}(hc:(Region.noSelect ops&&(Region.free .any ops listed i&&(Region.ready .any ops listed).contains i))=true)(hi:ops[i]?=some o)(hd:o.dst=some t)
  (hQ:∀c a w,Q (.panic c) (a.put (some t) v) w->Q (.panic c) a w) (hw:Region.wanted o (yielded ops a.tmps)=true) (hy:∀w,S w->(execOp a.eval o).run Tryz.prog w = .ok (.value v) w) (hS:S w)
  (h:wpAnyH Tryz.prog .any ops Q S fuel (listed.setIfInBounds i true) (a.put (some t) v) w):wpAnyH Tryz.prog .any ops Q S (fuel+1) listed a w:=by
 simp only[Bool.and_eq_true]at hc
 rw[<- hd]at hQ h
 exact wpAnyH_take hi hc.1 hc.2.1 hc.2.2 hQ (.inl ⟨hw,hy⟩) hS h
theorem h_one (i:Nat)(o:Oper)(hi:ops[i]?=some o)(hr:Region.ready .any ops listed=[i])(hw:Region.wanted o (yielded ops a.tmps)=true)
  (h:o.wp Tryz.prog a w (λa' w'=>S w'/\wpAnyH Tryz.prog .any ops Q S fuel (listed.setIfInBounds i true) a' w') Q):wpAnyH Tryz.prog .any ops Q S (fuel+1) listed a w:=
 wpAnyH_all hr (by simp) λj hj=>by
  obtain rfl:j=i:=by simpa using hj
  unfold wpOp
  simp only[hi,hw,if_true]
  exact .inl h
def Own (F:Nat):Prop:=∃fn,Tryz.prog.funcs[F]?=some fn/\(fn.name == "runtime.NumGoroutine")=false/\fn.body.isNone=false
theorem run_own {F:Nat}(h:Own F)(args:Array Value)(w:World):(callFunc F args).run Tryz.prog w = .ok (.enter F args) w:=by
 obtain⟨fn,h1,h2,h3⟩:=h
 simp only[callFunc,Sem.run_bind,run_program,Result.andThen_ok,h1,h2,h3,Bool.false_eq_true,if_false,Sem.run_pure]
theorem h_call (i:Nat)(o:Oper){F:Nat}{t:Tmp}{xs:Array Operand}{ts:Array TypeId}{args:Array Value}(R:Value->World->Prop)(hF:Own F)(ho:o.op = .call { callee :=.value (.func F),args:=xs,argTypes:=ts })(hd:o.dst=some t)(hi:ops[i]?=some o)(hr:Region.ready .any ops listed=[i])
  (hw:Region.wanted o (yielded ops a.tmps)=true) (ha':(xs.toList.map a.eval).toArray=args) (hc:Calls Tryz.prog F args w λe w'=>∃v,e = .returned v/\R v w')
  (h:∀v w',R v w'->S w'/\wpAnyH Tryz.prog .any ops Q S fuel (listed.setIfInBounds i true) (a.put (some t) v) w'):wpAnyH Tryz.prog .any ops Q S (fuel+1) listed a w:=
 h_one i o hi hr hw (by
  have ha:xs.map a.eval=args:=by rw[<- ha'];exact Array.ext' (by rw[Array.toList_map])
  unfold Oper.wp execOp
  have e:a.eval (.func F) = .func (.func F) #[] #[]:=rfl
  have e2:(#[]++args:Array Value) ++ #[]=args:=by simp
  simp only[ho,resolve,e,ha,Deferred.ofValue,invoke,Sem.run_bind,Sem.run_pure,Result.andThen_ok]
  rw[e2,run_own hF]
  exact hc.mono λe w' ⟨v,he,hR⟩=>by subst he;rw[hd];exact h v w' hR)
theorem h_oneK (i:Nat)(o:Oper)(hi:ops[i]?=some o)(hr:Region.ready .any ops listed=[i])(hw:Region.wanted o (yielded ops a.tmps)=true)
  (h:∀K':Act->World->Prop,Shut (∀a w,S w->(S w->wpAnyH Tryz.prog .any ops Q S fuel (listed.setIfInBounds i true) a w)->K' a w)->o.wp Tryz.prog a w K' Q):wpAnyH Tryz.prog .any ops Q S (fuel+1) listed a w:=
 h_one i o hi hr hw (h _ λ_ _ hS hW=>⟨hS,hW hS⟩)
end
end Go.Proofs.YtedkgofehbecmaaGreatDoor.Fl
namespace Go.Proofs.YtedkgofehbecmaaGreatDoor
open Go.Lib (hid)
open Go Go.RowKit
open Tr (Bx heap1 bt Nds Ints BPost IPost rgB)
def wayG (G:List Gn)(i:Nat)(nx:List Int)(rs:Option Int):List Gn:=match G[i]? with
 |none=>G
 |some x=>G.set i ⟨x.kd,x.pl,x.pr,nx,rs.getD x.rs⟩
theorem wayG_len (G:List Gn)(i:Nat)(nx:List Int)(rs:Option Int):(wayG G i nx rs).length=G.length:=by
 unfold wayG;cases G[i]?<;>simp
def bkG (st:List Gn->Nat->Int->List Gn × Int):List Int->List Gn->Int->List Gn × Int
 | [],G,fo=>(G,fo)
 |k :: ks,G,fo=>bkG st ks (st G k.toNat fo).1 (st G k.toNat fo).2
theorem bkG_app (st:List Gn->Nat->Int->List Gn × Int):∀(a b:List Int) (G:List Gn) (fo:Int),bkG st (a++b) G fo=bkG st b (bkG st a G fo).1 (bkG st a G fo).2
 | [],_,_,_=>rfl
 |_ :: a,b,_,_=>bkG_app st a b _ _
theorem bkG_len {st:List Gn->Nat->Int->List Gn × Int}(h:∀G p fo,(st G p fo).1.length=G.length):∀(ks:List Int) (G:List Gn) (fo:Int),(bkG st ks G fo).1.length=G.length
 | [],_,_=>rfl
 |k :: ks,G,fo=>(bkG_len h ks _ _).trans (h G k.toNat fo)
def swG (bl:List Gn->Int->Int->Int->List Gn × Int)(q:Tr.Nd)(self:Int)(G:List Gn)(fo ha ex:Int):List Gn × Int × List Int:=
 if q.kd=11 then
  ((bl (bl G (q.ks.getD 1 0) fo ha).1 (q.ks.getD 2 0) fo ha).1,self,[(bl G (q.ks.getD 1 0) fo ha).2,(bl (bl G (q.ks.getD 1 0) fo ha).1 (q.ks.getD 2 0) fo ha).2])
 else if q.kd=12 then ((bl G (q.ks.getD 1 0) self ha).1,self,[(bl G (q.ks.getD 1 0) self ha).2,fo])
 else if q.kd=16 then
  ((bl (bl G (q.ks.getD 0 0) fo self).1 (q.ks.getD 1 0) fo ha).1,(bl G (q.ks.getD 0 0) fo self).2,[(bl (bl G (q.ks.getD 0 0) fo self).1 (q.ks.getD 1 0) fo ha).2])
 else if q.kd=14 then (G,self,[ex])
 else if q.kd=15 then (G,self,[])
 else (G,self,[fo])
def stG (l:List Tr.Nd)(R:Nat->Bool)(sp:Nat->Int):Nat->List Gn->Nat->Int->Int->Int->List Gn × Int
 |0,G,_,fo,_,_=>(G,fo)
 |f+1,G,p,fo,ha,ex=>
  let S:=swG (λG k fo ha=>bkG (λG p fo=>stG l R sp f G p fo ha ex) (Tr.nth l k.toNat).ks.reverse G fo) (Tr.nth l p) (sp p) G fo ha ex
  (wayG S.1 (sp p).toNat S.2.2 (if R p then some ha else none),S.2.1)
def blG (l:List Tr.Nd)(R:Nat->Bool)(sp:Nat->Int)(f:Nat)(G:List Gn)(p:Nat)(fo ha ex:Int):List Gn × Int:=bkG (λG p fo=>stG l R sp f G p fo ha ex) (Tr.nth l p).ks.reverse G fo
theorem swG_len {bl:List Gn->Int->Int->Int->List Gn × Int}(h:∀G k fo ha,(bl G k fo ha).1.length=G.length)(q:Tr.Nd)(self:Int)(G:List Gn)(fo ha ex:Int):(swG bl q self G fo ha ex).1.length=G.length:=by
 unfold swG
 split
 ·rw[h,h]
 split
 ·rw[h]
 split
 ·rw[h,h]
 split
 ·rfl
 split<;>rfl
theorem stG_len (l:List Tr.Nd)(R:Nat->Bool)(sp:Nat->Int):∀(f:Nat) (G:List Gn) (p:Nat) (fo ha ex:Int),(stG l R sp f G p fo ha ex).1.length=G.length
 |0,_,_,_,_,_=>rfl
 |f+1,G,p,fo,ha,ex=>by
  show(wayG _ _ _ _).length=_
  rw[wayG_len]
  exact swG_len (λG k fo ha=>bkG_len (λG p fo=>stG_len l R sp f G p fo ha ex) _ _ _) _ _ _ _ _ _
theorem blG_len (l:List Tr.Nd)(R:Nat->Bool)(sp:Nat->Int)(f:Nat)(G:List Gn)(p:Nat)(fo ha ex:Int):(blG l R sp f G p fo ha ex).1.length=G.length:=bkG_len (λG p fo=>stG_len l R sp f G p fo ha ex) _ _ _
def GR (w:World)(gb M:Nat)(X:Nat->Prop)(G:List Gn):Prop:=∃cs,Bx w gb 42 cs/\(cs.length=M/\G.length*5<=M)/\∀j (hj:j<G.length),cs[j*5]?=some (.int .i64 G[j].kd)/\cs[j*5+1]?=some (.int .i64 G[j].pl)/\cs[j*5+2]?=some (.int .i64 G[j].pr)/\cs[j*5+4]?=some (.int .i64 G[j].rs)/\∃K c,cs[j*5+3]?=some (.slice K G[j].nx.length c)/\Kd w X K G[j].nx
theorem GR.lt {w:World}{gb M:Nat}{X:Nat->Prop}{G:List Gn}(h:GR w gb M X G):gb<w.heap.size:=by
 obtain⟨cs,hb,_⟩:=h;exact hb.lt
theorem GR.below {w w':World}{gb M:Nat}{X:Nat->Prop}{G:List Gn}(h:GR w gb M X G)(hb:Below w.heap.size w w'):GR w' gb M X G:=by
 obtain⟨cs,h1,h2,h3⟩:=h
 refine⟨cs,h1.below hb h1.lt,h2,λj hj =>?_⟩
 obtain⟨a,b,c,d,K,e,f,g⟩:=h3 j hj
 exact⟨a,b,c,d,K,e,f,g.fr (E:=λ_=>False) (Fr.of hb) (λ_ _ _=>id)⟩
theorem GR.next {w:World}{gb M:Nat}{X:Nat->Prop}{G:List Gn}(h:GR w gb M X G){i:Nat}(hi:i<G.length){K:Option Addr}{nx:List Int}{c:Nat}(hK:Kd w X K nx):GR (w.setCell ⟨gb,i*5+3,none⟩ (.slice K nx.length c)) gb M X (wayG G i nx none)/\Fr (λb=>b=gb) w (w.setCell ⟨gb,i*5+3,none⟩ (.slice K nx.length c)):=by
 obtain⟨cs,h1,h2,h3⟩:=h
 have hf:Fr (λb=>b=gb) w (w.setCell ⟨gb,i*5+3,none⟩ (.slice K nx.length c)):=Fr.set (E:=λb=>b=gb) (Fr.refl _ _) rfl _
 have hkeep:∀K2 ks,Kd w X K2 ks->Kd (w.setCell ⟨gb,i*5+3,none⟩ (.slice K nx.length c)) X K2 ks:=λK2 ks hk=>hk.fr (E:=λb=>b=gb) hf (λb cs' hb e=>by
  have e:b=gb:=e
  subst e
  have:=hb.symm.trans h1
  simp at this)
 refine⟨⟨cs.set (i*5+3) (.slice K nx.length c),h1.set_ _ _,?_,?_⟩,hf⟩
 ·rw[wayG_len,List.length_set];exact h2
 intro j hj
 have hw:wayG G i nx none=G.set i ⟨G[i].kd,G[i].pl,G[i].pr,nx,G[i].rs⟩:=by unfold wayG;rw[List.getElem?_eq_getElem hi];rfl
 have hj':j<G.length:=by rw[wayG_len]at hj;exact hj
 obtain⟨a,b,d,e,K',c',f,g⟩:=h3 j hj'
 by_cases hji:j=i
 ·subst hji
  simp only[hw,List.getElem_set_self]
  refine⟨?_,?_,?_,?_,K,c,?_,hkeep _ _ hK⟩
  ·rw[List.getElem?_set_ne (by omega)];exact a
  ·rw[List.getElem?_set_ne (by omega)];exact b
  ·rw[List.getElem?_set_ne (by omega)];exact d
  ·rw[List.getElem?_set_ne (by omega)];exact e
  ·rw[List.getElem?_set_self (by omega)]
 ·simp only[hw,List.getElem_set_ne (λe=>hji e.symm)]
  refine⟨?_,?_,?_,?_,K',c',?_,hkeep _ _ g⟩
  ·rw[List.getElem?_set_ne (by omega)];exact a
  ·rw[List.getElem?_set_ne (by omega)];exact b
  ·rw[List.getElem?_set_ne (by omega)];exact d
  ·rw[List.getElem?_set_ne (by omega)];exact e
  ·rw[List.getElem?_set_ne (by omega)];exact f
theorem GR.raise {w:World}{gb M:Nat}{X:Nat->Prop}{G:List Gn}(h:GR w gb M X G){i:Nat}(hi:i<G.length)(ha:Int):GR (w.setCell ⟨gb,i*5+4,none⟩ (.int .i64 ha)) gb M X (wayG G i G[i].nx (some ha))/\Fr (λb=>b=gb) w (w.setCell ⟨gb,i*5+4,none⟩ (.int .i64 ha)):=by
 obtain⟨cs,h1,h2,h3⟩:=h
 have hf:Fr (λb=>b=gb) w (w.setCell ⟨gb,i*5+4,none⟩ (.int .i64 ha)):=Fr.set (E:=λb=>b=gb) (Fr.refl _ _) rfl _
 have hkeep:∀K ks,Kd w X K ks->Kd (w.setCell ⟨gb,i*5+4,none⟩ (.int .i64 ha)) X K ks:=λK ks hk=>hk.fr (E:=λb=>b=gb) hf (λb cs' hb e=>by
  have e:b=gb:=e
  subst e
  have:=hb.symm.trans h1
  simp at this)
 refine⟨⟨cs.set (i*5+4) (.int .i64 ha),h1.set_ _ _,?_,?_⟩,hf⟩
 ·rw[wayG_len,List.length_set];exact h2
 intro j hj
 have hw:wayG G i G[i].nx (some ha)=G.set i ⟨G[i].kd,G[i].pl,G[i].pr,G[i].nx,ha⟩:=by unfold wayG;rw[List.getElem?_eq_getElem hi];rfl
 have hj':j<G.length:=by rw[wayG_len]at hj;exact hj
 obtain⟨a,b,d,e,K',c',f,g⟩:=h3 j hj'
 by_cases hji:j=i
 ·subst hji
  simp only[hw,List.getElem_set_self]
  refine⟨?_,?_,?_,?_,K',c',?_,hkeep _ _ g⟩
  ·rw[List.getElem?_set_ne (by omega)];exact a
  ·rw[List.getElem?_set_ne (by omega)];exact b
  ·rw[List.getElem?_set_ne (by omega)];exact d
  ·rw[List.getElem?_set_self (by omega)]
  ·rw[List.getElem?_set_ne (by omega)];exact f
 ·simp only[hw,List.getElem_set_ne (λe=>hji e.symm)]
  refine⟨?_,?_,?_,?_,K',c',?_,hkeep _ _ g⟩
  ·rw[List.getElem?_set_ne (by omega)];exact a
  ·rw[List.getElem?_set_ne (by omega)];exact b
  ·rw[List.getElem?_set_ne (by omega)];exact d
  ·rw[List.getElem?_set_ne (by omega)];exact e
  ·rw[List.getElem?_set_ne (by omega)];exact f
end Go.Proofs.YtedkgofehbecmaaGreatDoor
