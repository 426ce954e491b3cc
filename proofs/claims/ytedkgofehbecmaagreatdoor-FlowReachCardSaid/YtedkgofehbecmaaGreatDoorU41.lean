/- PROVED here: parts N43 N44 of the claim. No condition but those in each theorem's own head. -/
import Derived.Test.YtedkgofehbecmaaGreatDoorU36
import Derived.Test.YtedkgofehbecmaaGreatDoorU37
import Derived.Test.YtedkgofehbecmaaGreatDoorU40
import Derived.Test.YtedkgofehbecmaaGreatDoorU38
import Derived.Test.YtedkgofehbecmaaGreatDoorU30
import Derived.Test.YtedkgofehbecmaaGreatDoorU24
import Derived.BigQuiet
namespace Go.Proofs.YtedkgofehbecmaaGreatDoor
open Go.Lib (hid)
open Go Go.RowKit
open Tr (Bx heap1 bt)
set_option maxRecDepth 100000 in
set_option maxHeartbeats 1000000 in
theorem accepted_any {w:World}{A:Option Addr}{n:Nat}{l:List Tr.Nd}(h:TT w A n l)(c:Nat)(r:Int):Calls Tryz.prog 49 #[.agg #[.slice A n c,.int .i64 r]] w (VPost (.bool ((chkT l r).2==0)) w):=by
 have HC:=hid (check_any (h.below (heap1 w (.cells #[.slice A n c,.int .i64 r] 24))) c r)
 have HB:=hid (heap1 w (.cells #[.slice A n c,.int .i64 r] 24))
 obtain⟨⟨a,b⟩,hab⟩:∃q,chkT l r=q:=⟨_,rfl⟩
 rw[hab]at HC |-
 dsimp only at HC |-
 clear h hab
 go_enter Tryz.func49,Tryz.ntmps49
 go_wp2_with (refine HC.out.mono ?_;rintro e w' ⟨rfl,hb⟩)
 exact bodyPost_ret (v :=.bool (b==0)) (by simp[results,Tryz.f49,go_sem]) rfl ⟨rfl,bt HB.out hb⟩
end Go.Proofs.YtedkgofehbecmaaGreatDoor
namespace Go.Proofs.YtedkgofehbecmaaGreatDoor
open Go.Lib (hid)
open Go Go.RowKit
open Tr (Bx heap1 bt Nds Ints BPost IPost rgB Ib)
noncomputable def okT (l:List Tr.Nd)(r:Int):Bool:=(chkT l r).2==0
theorem ok_rg {l:List Tr.Nd}{r:Int}(h:okT l r=true):rgB l r=true:=by
 unfold okT chkT at h
 cases e:rgB l r with
 |true=>rfl
 |false=>rw[e]at h;simp at h
def GrP (G:List Gn)(P:List Int)(w:World)(v:Value)(w':World):Prop:=∃V U base,v = .agg #[V,U]/\Below w.heap.size w w'/\w.heap.size<=base/\GNodes w' (λ_=>False) base V G/\w'.ownsRow base 3 1 U P.length (P.map (Value.int .i64))
section
variable {w:World} {l:List Tr.Nd} {A:Option Addr} {n:Nat}
set_option maxRecDepth 100000 in
set_option maxHeartbeats 2000000 in
theorem build_no (h:TT w A n l)(c:Nat)(r:Int)(hr:okT l r=false):Calls Tryz.prog 16 #[.agg #[.slice A n c,.int .i64 r]] w (VPost (.tuple #[.agg #[.slice none 0 0,.slice none 0 0],.int .i64 1]) w):=by
 obtain⟨W0,hW0⟩:∃W0,(w.alloc (.cells #[.slice A n c,.int .i64 r] 24)).alloc (.cells #[.slice none 0 0,.slice none 0 0] 30)=W0:=⟨_,rfl⟩
 have hB0:Below w.heap.size w W0:=by rw[<- hW0];exact((Below.refl _ w).alloc (Nat.le_refl _) _).alloc (by simp) _
 have HB0:=hid hB0
 have HX0:=hid (show Bx W0 w.heap.size 24 [.slice A n c,.int .i64 r]by rw[<- hW0];exact(Bx.new w 24 _).alloc _)
 have HG0:=hid (show Bx W0 (w.heap.size+1) 30 [.slice none 0 0,.slice none 0 0] by
  rw[<- hW0];have:=Bx.new (w.alloc (.cells #[.slice A n c,.int .i64 r] 24)) 30 [.slice none 0 0,.slice none 0 0];rw[World.size_alloc]at this;exact this)
 have HC:=accepted_any (h.below hB0) c r
 have hr':((chkT l r).2==0)=false:=hr
 rw[hr']at HC
 replace HC:=hid HC
 have a0:=(HX0.out.cell 0).trans rfl
 have a1:=(HX0.out.cell 1).trans rfl
 clear h hB0 hr hr'
 go_enter Tryz.func16,Tryz.ntmps16
 go_upto_region 2 with(go_at_call 49;refine HC.out.mono ?_;rintro e w1 ⟨rfl,hb1⟩)
 have hg1:=HG0.out.below hb1 HG0.out.lt
 have hgt:=(hg1.set_ 0 (.slice none 0 0)).set_ 1 (.slice none 0 0)
 simp only[List.set_cons_zero,List.set_cons_succ]at hgt
 have r0:=(hg1.cell 0).trans rfl
 have r1:=(hg1.cell 1).trans rfl
 have f0:=hg1.frozen 0
 have f1:=hg1.frozen 1
 have g0:=(hgt.cell 0).trans rfl
 have g1:=(hgt.cell 1).trans rfl
 have hb:=bt HB0.out hb1
 have HE:=hid (show Below w.heap.size w ((w1.setCell ⟨w.heap.size+1,0,none⟩ (.slice none 0 0)).setCell ⟨w.heap.size+1,1,none⟩ (.slice none 0 0)) from(hb.setCell (p:=⟨w.heap.size+1,0,none⟩) (Nat.le_succ _) _).setCell (p:=⟨w.heap.size+1,1,none⟩) (Nat.le_succ _) _)
 clear hg1 hgt hb1 hb a0 a1 hW0
 go_wp2
 exact bodyPost_ret (v :=.tuple #[.agg #[.slice none 0 0,.slice none 0 0],.int .i64 1]) (by simp[results,Tryz.f16,go_sem,g0,g1]) rfl ⟨rfl,HE.out⟩
set_option maxRecDepth 100000 in
set_option maxHeartbeats 2000000 in
theorem build_yes (h:TT w A n l)(c:Nat)(r:Int)(hr:okT l r=true):Calls Tryz.prog 16 #[.agg #[.slice A n c,.int .i64 r]] w (λe w'=>∃v,e = .returned (.tuple #[v,.int .i64 0])/\GrP (grG l (rsF l r n)).G (grG l (rsF l r n)).P w v w'):=by
 obtain⟨W0,hW0⟩:∃W0,(w.alloc (.cells #[.slice A n c,.int .i64 r] 24)).alloc (.cells #[.slice none 0 0,.slice none 0 0] 30)=W0:=⟨_,rfl⟩
 have hB0:Below w.heap.size w W0:=by rw[<- hW0];exact((Below.refl _ w).alloc (Nat.le_refl _) _).alloc (by simp) _
 have HB0:=hid hB0
 have HX0:=hid (show Bx W0 w.heap.size 24 [.slice A n c,.int .i64 r]by rw[<- hW0];exact(Bx.new w 24 _).alloc _)
 have HG0:=hid (show Bx W0 (w.heap.size+1) 30 [.slice none 0 0,.slice none 0 0] by
  rw[<- hW0];have:=Bx.new (w.alloc (.cells #[.slice A n c,.int .i64 r] 24)) 30 [.slice none 0 0,.slice none 0 0];rw[World.size_alloc]at this;exact this)
 have HC:=accepted_any (h.below hB0) c r
 have hr':((chkT l r).2==0)=true:=hr
 rw[hr']at HC
 replace HC:=hid HC
 have HBd:=hid (λ(W:World) (q:Below W0.heap.size W0 W)=>build_any ((h.below hB0).below q) c r (ok_rg hr))
 have a0:=(HX0.out.cell 0).trans rfl
 have a1:=(HX0.out.cell 1).trans rfl
 obtain⟨bs,hbs⟩:∃bs,grG l (rsF l r n)=bs:=⟨_,rfl⟩
 rw[hbs]
 have HBS:=hid hbs
 clear hbs
 clear h hB0 hr hr'
 go_enter Tryz.func16,Tryz.ntmps16
 go_wp2_with (go_at_call 49;refine HC.out.mono ?_)
 rintro e w1 ⟨rfl,hb1⟩
 have hx1:=HX0.out.below hb1 HX0.out.lt
 have HG1:=hid (HG0.out.below hb1 HG0.out.lt)
 have HB1:=hid hb1
 clear a0 a1
 have a0:=(hx1.cell 0).trans rfl
 have a1:=(hx1.cell 1).trans rfl
 clear hx1 hb1 hW0
 go_wp2_with (go_at_call 50;refine(HBd.out _ HB1.out).mono ?_)
 rintro e w2 ⟨V,U,base,rfl,hb2,hbase,hN,hO⟩
 rw[HBS.out]at hN hO
 obtain⟨VA,vc,hV⟩:=hN.slice
 obtain⟨UA,uc,hU⟩:=own_slice hO
 have hg2:=HG1.out.below hb2 HG1.out.lt
 have hgt:=(hg2.set_ 0 V).set_ 1 U
 simp only[List.set_cons_zero,List.set_cons_succ]at hgt
 have r0:=(hg2.cell 0).trans rfl
 have r1:=(hg2.cell 1).trans rfl
 have f0:=hg2.frozen 0
 have f1:=hg2.frozen 1
 have hFr:Fr (λb=>b=w.heap.size+1) w2 ((w2.setCell ⟨w.heap.size+1,0,none⟩ V).setCell ⟨w.heap.size+1,1,none⟩ U):=((Fr.refl (λb=>b=w.heap.size+1) w2).set rfl _).set rfl _
 have hsz1:=HG1.out.lt
 have hb9:Below w.heap.size w ((w2.setCell ⟨w.heap.size+1,0,none⟩ V).setCell ⟨w.heap.size+1,1,none⟩ U):=(((bt (bt HB0.out HB1.out) hb2).setCell (p:=⟨w.heap.size+1,0,none⟩) (Nat.le_succ _) _).setCell (p:=⟨w.heap.size+1,1,none⟩) (Nat.le_succ _) _)
 have HE:=hid (show GrP bs.G bs.P w (.agg #[V,U]) ((w2.setCell ⟨w.heap.size+1,0,none⟩ V).setCell ⟨w.heap.size+1,1,none⟩ U)from by
  refine⟨V,U,base,rfl,hb9,by omega,?_,?_⟩
  ·refine hN.move hFr (λb hb e=>by have e:b=w.heap.size+1:=e;have:=(hN.blk hb).1;omega) (λb cs hl hb hx=>⟨λe =>?_,id⟩)
   have e:b=w.heap.size+1:=e
   subst e
   have:=hb.symm.trans hg2
   simp at this
  ·exact own_frN hO hFr (λb hb e=>by have e:b=w.heap.size+1:=e;have:=(own_blk hO hb).1;omega))
 subst hV
 subst hU
 have g0:=(hgt.cell 0).trans rfl
 have g1:=(hgt.cell 1).trans rfl
 clear hg2 hgt hFr hb9 hb2 hbase hN hO hsz1 a0 a1
 go_wp2
 exact bodyPost_ret (v :=.tuple #[.agg #[.slice VA bs.G.length vc,.slice UA bs.P.length uc],.int .i64 0]) (by simp[results,Tryz.f16,go_sem,g0,g1]) rfl ⟨_,rfl,HE.out⟩
end
end Go.Proofs.YtedkgofehbecmaaGreatDoor
namespace Go.Proofs.YtedkgofehbecmaaGreatDoor
open Go.Lib (hid)
open Go Go.RowKit
open Tr (Bx heap1 bt Nds Ints BPost IPost rgB Ib)
theorem own_intsP {w:World}{base n c:Nat}{UA:Option Addr}{P:List Int}(h:w.ownsRow base 3 1 (.slice UA n c) P.length (P.map (Value.int .i64))):Ints w UA P:=λh0=>by
 rcases h.2 with⟨e1,e2⟩ |⟨gb,cap,cur,e1,e2,e3,e4,e5,e6,e7⟩
 ·omega
 ·have e8:UA=some ⟨gb,0,none⟩:=by injection e1
  refine⟨gb,0,e8,(Array.getElem?_eq_some_iff.1 e3).1,λj hj =>?_⟩
  rw[cell_of_row w gb (0+j) _ 3 (0,0) e3,Nat.zero_add,<- Array.getElem?_toList]
  have:(P.map (Value.int .i64))[j]?=some (.int .i64 P[j]):=by simp[hj]
  rw[<- e7,List.getElem?_take_of_lt (by omega)]at this
  exact this
end Go.Proofs.YtedkgofehbecmaaGreatDoor
namespace Go.Proofs.YtedkgofehbecmaaGreatDoor
open Go.Lib (hid)
open Go Go.RowKit
open Tr (Bx heap1 bt)
set_option maxRecDepth 100000 in
set_option maxHeartbeats 1000000 in
theorem end1_any (w:World)(b d:Nat)(kd pl pr rs kind proc:Int)(K:Option Addr)(m c:Nat)(hb:Bx w b 3 [.int .i64 kind])(hd:Bx w d 3 [.int .i64 proc]):Calls Tryz.prog 99 #[.agg #[.int .i64 kd,.int .i64 pl,.int .i64 pr,.slice K m c,.int .i64 rs],.pointer (some ⟨b,0,none⟩),.pointer (some ⟨d,0,none⟩)] w (VPost (.bool (kd==kind&&pr==proc)) w):=by
 have HB:=hid (heap1 w (.cells #[.int .i64 kd,.int .i64 pl,.int .i64 pr,.slice K m c,.int .i64 rs] 42))
 have c0:=(hb.alloc (.cells #[.int .i64 kd,.int .i64 pl,.int .i64 pr,.slice K m c,.int .i64 rs] 42)).cell 0
 have d0:=(hd.alloc (.cells #[.int .i64 kd,.int .i64 pl,.int .i64 pr,.slice K m c,.int .i64 rs] 42)).cell 0
 simp only[List.getElem?_cons_zero]at c0 d0
 clear hb hd
 by_cases h0:kd=kind
 ·subst h0
  go_enter Tryz.func99,Tryz.ntmps99
  go_wp2
  exact bodyPost_ret (v :=.bool (pr==proc)) (by simp[results,Tryz.f99,go_sem]) rfl ⟨by simp,HB.out⟩
 ·have e:(kd==kind)=false:=by simp[h0]
  go_enter Tryz.func99,Tryz.ntmps99
  go_wp2
  exact bodyPost_ret (v :=.bool false) (by simp[results,Tryz.f99,go_sem]) rfl ⟨by simp[e],HB.out⟩
end Go.Proofs.YtedkgofehbecmaaGreatDoor
namespace Go.Proofs.YtedkgofehbecmaaGreatDoor
open Go.Lib (hid)
open Go Go.RowKit
open Tr (Bx heap1 bt)
def ixF (P:Gn->Bool):List Gn->Nat->Int
 | [],_ => -1
 |x :: l,j=>if P x=true then (j:Int) else ixF P l (j+1)
set_option maxRecDepth 100000 in
set_option maxHeartbeats 2000000 in
theorem end_ix {w:World}{gb M:Nat}{X:Nat->Prop}{G:List Gn}(h:GR w gb M X G)(hN:G.length<=100000)(c:Nat){b d:Nat}(kind proc:Int)(hb3:Bx w b 3 [.int .i64 kind])(hd3:Bx w d 3 [.int .i64 proc]) :
  Calls Tryz.prog 61 #[.slice (some ⟨gb,0,none⟩) G.length c,.func (.func 99) #[] #[.pointer (some ⟨b,0,none⟩),.pointer (some ⟨d,0,none⟩)]] w (VPost (.int .i64 (ixF (λx:Gn=>x.kd==kind&&x.pr==proc) G 0)) w):=by
 obtain⟨n,hn⟩:∃n,G.length=n:=⟨_,rfl⟩
 have HN:=hid hn
 have HG:=hid h
 obtain⟨R,hR⟩:∃R,ixF (λx:Gn=>x.kd==kind&&x.pr==proc) G 0=R:=⟨_,rfl⟩
 have HR:=hid hR
 rw[hn]at hN |-
 rw[hR]
 clear h hn hR
 go_enter Tryz.func61,Tryz.ntmps61
 go_wp2
 go_loopw [8] (λi wr=>∃j:Nat,j<=n/\i = .int .i64 (j:Int)/\Below w.heap.size w wr/\ixF (λx:Gn=>x.kd==kind&&x.pr==proc) (G.drop j) j=R) (λi _=>n-(intOf i).toNat)
 case atStart=>exact⟨0,Nat.zero_le _,rfl,Below.refl _ _,HR.out⟩
 case round=>
  obtain⟨j,hj,rfl,hb,hix⟩:=hrel
  by_cases hlt:j<n
  ·have hlz:(j:Int)<(n:Int):=by omega
   have hjl:j<G.length:=by rw[HN.out];exact hlt
   obtain⟨cs,h1,-,h3⟩:=HG.out.below hb
   obtain⟨a0,a1,a2,a4,K,kc,a3,-⟩:=h3 j hjl
   have d0:=(h1.cell (j*5)).trans a0
   have d1:=(h1.cell (j*5+1)).trans a1
   have d2:=(h1.cell (j*5+2)).trans a2
   have d3:=(h1.cell (j*5+3)).trans a3
   have d4:=(h1.cell (j*5+4)).trans a4
   rw[List.drop_eq_getElem_cons hjl]at hix
   unfold ixF at hix
   obtain⟨x,hx⟩:∃x,G[j]'hjl=x:=⟨_,rfl⟩
   rw[hx]at d0 d1 d2 d3 d4 hix
   have HC:=hid (end1_any wr b d x.kd x.pl x.pr x.rs kind proc K x.nx.length kc (hb3.below hb hb3.lt) (hd3.below hb hd3.lt))
   have HB:=hid hb
   clear h1 h3 a0 a1 a2 a3 a4 hx hb
   cases hp:(x.kd==kind&&x.pr==proc)
   ·rw[hp]at hix
    rw[hp]at HC
    go_wp2_with (refine HC.out.mono ?_;rintro e w' ⟨rfl,hb2⟩)
    go_roundw
    case rel=>exact⟨j+1,by omega,by go_num,bt HB.out hb2,by simpa using hix⟩
    case measure=>simp[intOf];omega
   ·rw[hp]at hix
    rw[hp]at HC
    go_wp2_with (refine HC.out.mono ?_;rintro e w' ⟨rfl,hb2⟩)
    exact bodyPost_ret (v :=.int .i64 R) (by simp[results,Tryz.f61,go_sem];simpa using hix) rfl ⟨rfl,bt HB.out hb2⟩
  ·obtain rfl:j=n:=by omega
   have hlz:¬(j:Int)<(j:Int):=by omega
   have e:R = -1:=by rw[<- hix,List.drop_eq_nil_of_le (by rw[HN.out];omega)];rfl
   subst e
   go_wp2
   exact bodyPost_ret (v :=.int .i64 (-1)) (by simp[results,Tryz.f61,go_sem]) rfl ⟨rfl,hb⟩
end Go.Proofs.YtedkgofehbecmaaGreatDoor
namespace Go.Proofs.YtedkgofehbecmaaGreatDoor
open Go.Lib (hid)
open Go Go.RowKit
open Tr (Bx heap1 bt)
set_option maxRecDepth 100000 in
set_option maxHeartbeats 1000000 in
theorem end_any {w:World}{gb M:Nat}{X:Nat->Prop}{G:List Gn}(h:GR w gb M X G)(hN:G.length<=100000)(c:Nat)(PA:Option Addr)(np cp:Nat)(kind proc:Int) :
  Calls Tryz.prog 60 #[.agg #[.slice (some ⟨gb,0,none⟩) G.length c,.slice PA np cp],.int .i64 kind,.int .i64 proc] w (VPost (.int .i64 (ixF (λx:Gn=>x.kd==kind&&x.pr==proc) G 0)) w):=by
 obtain⟨W0,hW0⟩:∃W0,((w.alloc (.cells #[.slice (some ⟨gb,0,none⟩) G.length c,.slice PA np cp] 30)).alloc (.cells #[.int .i64 kind] 3)).alloc (.cells #[.int .i64 proc] 3)=W0:=⟨_,rfl⟩
 have hB:Below w.heap.size w W0:=by rw[<- hW0];exact(((Below.refl _ w).alloc (Nat.le_refl _) _).alloc (by simp) _).alloc (by simp;omega) _
 have hb3:Bx W0 (w.heap.size+1) 3 [.int .i64 kind]:=by
  rw[<- hW0];have:=(Bx.new (w.alloc (.cells #[.slice (some ⟨gb,0,none⟩) G.length c,.slice PA np cp] 30)) 3 [.int .i64 kind]).alloc (.cells #[.int .i64 proc] 3);rw[World.size_alloc]at this;exact this
 have hd3:Bx W0 (w.heap.size+1+1) 3 [.int .i64 proc]:=by
  rw[<- hW0];have:=Bx.new ((w.alloc (.cells #[.slice (some ⟨gb,0,none⟩) G.length c,.slice PA np cp] 30)).alloc (.cells #[.int .i64 kind] 3)) 3 [.int .i64 proc];rw[World.size_alloc,World.size_alloc]at this;exact this
 have hb30:Bx W0 w.heap.size 30 [.slice (some ⟨gb,0,none⟩) G.length c,.slice PA np cp]:=by rw[<- hW0];exact((Bx.new w 30 _).alloc _).alloc _
 have HC:=hid (end_ix (h.below hB) hN c kind proc hb3 hd3)
 have HB:=hid hB
 have c0:=(hb30.cell 0).trans rfl
 clear h hN hB hb3 hd3 hb30
 generalize ixF (λx:Gn=>x.kd==kind&&x.pr==proc) G 0=R at *
 generalize G.length=N at *
 go_enter Tryz.func60,Tryz.ntmps60
 go_wp2_with (refine HC.out.mono ?_;rintro e w' ⟨rfl,hb⟩)
 exact bodyPost_ret (v :=.int .i64 R) (by simp[results,Tryz.f60,go_sem]) rfl ⟨rfl,bt HB.out hb⟩
end Go.Proofs.YtedkgofehbecmaaGreatDoor
namespace Go.Proofs.YtedkgofehbecmaaGreatDoor
open Go.Lib (hid)
open Go Go.RowKit
open Tr (Bx heap1 bt)
set_option maxRecDepth 100000 in
set_option maxHeartbeats 1000000 in
theorem entry_any {w:World}{gb M:Nat}{X:Nat->Prop}{G:List Gn}(h:GR w gb M X G)(hN:G.length<=100000)(c:Nat)(PA:Option Addr)(np cp:Nat)(proc:Int) :
  Calls Tryz.prog 21 #[.agg #[.slice (some ⟨gb,0,none⟩) G.length c,.slice PA np cp],.int .i64 proc] w (VPost (.int .i64 (ixF (λx:Gn=>x.kd==1&&x.pr==proc) G 0)) w):=by
 have hB:=heap1 w (.cells #[.slice (some ⟨gb,0,none⟩) G.length c,.slice PA np cp] 30)
 have HC:=hid (end_any (h.below hB) hN c PA np cp 1 proc)
 have HB:=hid hB
 clear h hN hB
 generalize ixF (λx:Gn=>x.kd==1&&x.pr==proc) G 0=R at *
 generalize G.length=N at *
 go_enter Tryz.func21,Tryz.ntmps21
 go_wp2_with (refine HC.out.mono ?_;rintro e w' ⟨rfl,hb⟩)
 exact bodyPost_ret (v :=.int .i64 R) (by simp[results,Tryz.f21,go_sem]) rfl ⟨rfl,bt HB.out hb⟩
set_option maxRecDepth 100000 in
set_option maxHeartbeats 1000000 in
theorem exit_any {w:World}{gb M:Nat}{X:Nat->Prop}{G:List Gn}(h:GR w gb M X G)(hN:G.length<=100000)(c:Nat)(PA:Option Addr)(np cp:Nat)(proc:Int) :
  Calls Tryz.prog 23 #[.agg #[.slice (some ⟨gb,0,none⟩) G.length c,.slice PA np cp],.int .i64 proc] w (VPost (.int .i64 (ixF (λx:Gn=>x.kd==2&&x.pr==proc) G 0)) w):=by
 have hB:=heap1 w (.cells #[.slice (some ⟨gb,0,none⟩) G.length c,.slice PA np cp] 30)
 have HC:=hid (end_any (h.below hB) hN c PA np cp 2 proc)
 have HB:=hid hB
 clear h hN hB
 generalize ixF (λx:Gn=>x.kd==2&&x.pr==proc) G 0=R at *
 generalize G.length=N at *
 go_enter Tryz.func23,Tryz.ntmps23
 go_wp2_with (refine HC.out.mono ?_;rintro e w' ⟨rfl,hb⟩)
 exact bodyPost_ret (v :=.int .i64 R) (by simp[results,Tryz.f23,go_sem]) rfl ⟨rfl,bt HB.out hb⟩
set_option maxRecDepth 100000 in
set_option maxHeartbeats 1000000 in
theorem fail_any {w:World}{gb M:Nat}{X:Nat->Prop}{G:List Gn}(h:GR w gb M X G)(hN:G.length<=100000)(c:Nat)(PA:Option Addr)(np cp:Nat)(proc:Int) :
  Calls Tryz.prog 24 #[.agg #[.slice (some ⟨gb,0,none⟩) G.length c,.slice PA np cp],.int .i64 proc] w (VPost (.int .i64 (ixF (λx:Gn=>x.kd==3&&x.pr==proc) G 0)) w):=by
 have hB:=heap1 w (.cells #[.slice (some ⟨gb,0,none⟩) G.length c,.slice PA np cp] 30)
 have HC:=hid (end_any (h.below hB) hN c PA np cp 3 proc)
 have HB:=hid hB
 clear h hN hB
 generalize ixF (λx:Gn=>x.kd==3&&x.pr==proc) G 0=R at *
 generalize G.length=N at *
 go_enter Tryz.func24,Tryz.ntmps24
 go_wp2_with (refine HC.out.mono ?_;rintro e w' ⟨rfl,hb⟩)
 exact bodyPost_ret (v :=.int .i64 R) (by simp[results,Tryz.f24,go_sem]) rfl ⟨rfl,bt HB.out hb⟩
end Go.Proofs.YtedkgofehbecmaaGreatDoor
namespace Go.Proofs.YtedkgofehbecmaaGreatDoor
open Go.Lib (hid)
open Go
section
open Tr (nth)
variable {l:List Tr.Nd} {b:Nat->Nat} {R:Nat->Bool} {t:List (Nat × Nat)} {first:Nat} {s:BdS}
theorem chk_proc {l:List Tr.Nd}{r:Int}(h:(chkA l r).2=0):∃m:Nat,m<l.length/\(nth l m).kd=3:=by
 unfold chkA at h
 split at h
 ·next p e=>
  obtain⟨_,_,h3,_⟩:=fstA_some e
  have h:fauA l p=0:=h
  rw[h]at h3
  simp at h3
 ·next e=>
  by_cases hm:manB l=true
  ·unfold manB at hm
   split at hm
   ·cases hm
   ·next q e2=>
    unfold prF at e2
    obtain⟨_,h2,h3,_⟩:=fstA_some e2
    unfold prB at h3
    simp only[Bool.and_eq_true,decide_eq_true_eq]at h3
    have h4:=h3.1
    unfold ndA at h4
    rw[Int.toNat_natCast]at h4
    exact⟨q,h2,h4⟩
  ·rw[if_neg hm]at h
   simp at h
theorem IsG.pos (h:RtN l b){r:Int}(hc:(chkA l r).2=0)(hs:IsG l b R t (l.length-1) s):0<t.length:=by
 obtain⟨m,hm,h3⟩:=chk_proc hc
 have:m≠l.length-1:=λe=>by
  have hr:(nth l (l.length-1)).kd=1:=h.root
  rw[e,hr]at h3;exact absurd h3 (by decide)
 obtain⟨x,hx,_⟩:=hs.prc m (by omega) h3
 exact List.length_pos_of_mem hx
theorem IsG.big (hs:IsG l b R t first s):3*t.length<=s.G.length/\s.G.length<=4*first:=by
 have h1:=hs.cnt
 have h2:=hs.bnd
 have h3:=stsL_len l 0 first
 omega
end
end Go.Proofs.YtedkgofehbecmaaGreatDoor
namespace Go.Proofs.YtedkgofehbecmaaGreatDoor
open Go.Lib (hid)
open Go Go.RowKit
open Tr (Snd Sd rgB sndB_true dpt dpt_yes dpL shB StU)
def fxB:List UInt8:=[112,114,111,99,32,109,97,105,110,40,41,32,123,32,118,97,114,32,120,32,105,110,116,59,32,120,32,61,32,105,110,32,108,111,59,32,105,102,32,120,32,60,32,49,32,123,32,111,117,116,32,108,111,32,120,59,32,125,32,125]
def fxT:List Tk.Tok:=[⟨4,0,0,[112,114,111,99]⟩,⟨1,0,5,[109,97,105,110]⟩,⟨3,0,9,[40]⟩,⟨3,0,10,[41]⟩,⟨3,0,12,[123]⟩,⟨4,0,14,[118,97,114]⟩,⟨1,0,18,[120]⟩,⟨4,0,20,[105,110,116]⟩,⟨3,0,23,[59]⟩,⟨1,0,25,[120]⟩,⟨3,0,27,[61]⟩,⟨4,0,29,[105,110]⟩,⟨1,0,32,[108,111]⟩,⟨3,0,34,[59]⟩,⟨4,0,36,[105,102]⟩,⟨1,0,39,[120]⟩,⟨3,0,41,[60]⟩,⟨2,1,43,[49]⟩,⟨3,0,45,[123]⟩,⟨4,0,47,[111,117,116]⟩,⟨1,0,51,[108,111]⟩,⟨1,0,54,[120]⟩,⟨3,0,55,[59]⟩,⟨3,0,57,[125]⟩,⟨3,0,59,[125]⟩,⟨5,0,60,[]⟩]
def fxN:List Nd:=[⟨5,1,14,[120],[]⟩,⟨18,0,32,[108,111],[]⟩,⟨9,0,25,[120],[1]⟩,⟨22,0,39,[120],[]⟩,⟨20,1,43,[],[]⟩,⟨27,0,41,[60],[3,4]⟩,⟨18,0,51,[108,111],[]⟩,⟨22,0,54,[120],[]⟩,⟨10,0,47,[],[6,7]⟩,⟨6,0,45,[],[8]⟩,⟨6,0,36,[],[]⟩,⟨11,0,36,[],[5,9,10]⟩,⟨6,0,12,[],[2,11]⟩,⟨3,0,0,[109,97,105,110],[0,12]⟩,⟨1,0,0,[],[13]⟩]
theorem fx_cut:Tk.cutR fxB 0 = .ok fxT:=by decide +kernel
theorem fx_par:(match progR (fxT.map cvT) with| .ok _ s=>decide (s.nd=fxN) |_=>false)=true:=by decide +kernel
theorem fx_snd:Snd (fxN.map cvN) 14:=⟨λp=>([0,1,1,3,4,3,6,7,6,6,10,3,1,0,0]:List Nat).getD p 0,by decide,by decide,by decide,by
 intro p hp
 have hp':p<15:=hp
 revert p
 decide +kernel,by decide⟩
theorem fx_rg:rgB (fxN.map cvN) 14=true:=by
 unfold rgB
 rw[sndB_true fx_snd,dpt_yes fx_snd]
 decide +kernel
theorem fx_ans:∃k,ansOf progR fxB = .good fxN k:=tans fx_cut fx_par (by decide) (rg_dep fx_rg)
theorem fx_chk:(chkT (fxN.map cvN) 14).2=0:=by
 unfold chkT
 rw[fx_rg]
 rw[if_pos rfl]
 decide +kernel
theorem rsF_none {l:List Tr.Nd}(r:Int):∀k,(∀i,i<k->selfB (Tr.nth l i)=false)->rsF l r k=λ_=>false
 |0,_=>rfl
 |k+1,h=>by
  unfold rsF
  rw[rsF_none r k λi hi=>h i (by omega)]
  funext j
  simp[h k (Nat.lt_succ_self k)]
theorem fx_rs:rsF (fxN.map cvN) 14 15=λ_=>false:=rsF_none _ _ (by decide +kernel)
theorem fx_gr:(grG (fxN.map cvN) λ_=>false).G=[⟨1,13,0,[3],-1⟩,⟨2,13,0,[],-1⟩,⟨3,13,0,[],-1⟩,⟨4,2,0,[5],-1⟩,⟨4,8,0,[1],-1⟩,⟨4,11,0,[4,1],-1⟩]:=by kernel_rfl
theorem fx_pr:(grG (fxN.map cvN) λ_=>false).P=[13]:=by kernel_rfl
end Go.Proofs.YtedkgofehbecmaaGreatDoor
namespace Go.Proofs.YtedkgofehbecmaaGreatDoor
open Go.Lib (hid)
open Go Go.RowKit
open Tr (Bx heap1 bt Nds Ints BPost rgB)
def OkT8 (l:List Tr.Nd):Prop:=l.length<=300/\∀x ∈ l,x.ks.length<=300/\x.tx.size<=200
def SmPost8 (l:List Tr.Nd)(w:World)(e:Ending)(w':World):Prop:=Below w.heap.size w w'/\∃b,e = .returned (.bool b)/\(b=true->OkT8 l)
set_option maxRecDepth 100000 in
set_option maxHeartbeats 1500000 in
theorem small15_any (A:Option Addr)(n c:Nat)(l:List Tr.Nd)(r:Int)(w:World)(hN:Nds w A l)(hn:n=l.length):Calls Tryz.prog 15 #[.agg #[.slice A n c,.int .i64 r]] w (SmPost8 l w):=by
 have hb0:=heap1 w (.cells #[.slice A n c,.int .i64 r] 24)
 have HNN:=hid (hN.below hb0)
 have HB:=hid hb0
 have HN:=hid hn
 clear hN hn hb0
 by_cases h4:(300:Int)<(n:Int)
 ·have hd4:decide ((300:Int)<(n:Int))=true:=decide_eq_true h4
  go_enter Tryz.func15,Tryz.ntmps15
  go_wp2
  go_ret
  exact⟨HB.out,false,rfl,λh=>by cases h⟩
 ·have hd4:decide ((300:Int)<(n:Int))=false:=decide_eq_false h4
  go_enter Tryz.func15,Tryz.ntmps15
  go_wp2
  go_loop [3] (λi=>∃k:Nat,k<=n/\i = .int .i64 (k:Int)/\∀x ∈ l.take k,x.ks.length<=300/\x.tx.size<=200) (λi=>n-(intOf i).toNat)
  case atStart=>exact⟨0,Nat.zero_le _,rfl,λt ht=>by simp at ht⟩
  case round=>
   obtain⟨k,hk,rfl,hok2⟩:=hrel
   have HOK2:=hid hok2
   clear hok2
   by_cases hkl:k<n
   ·have hkz:(k:Int)<(n:Int):=by omega
    have hkt:k<l.length:=by rw[<- HN.out];exact hkl
    obtain⟨bN,oN,rfl,hbN,hcN⟩:=HNN.out (by omega)
    obtain⟨K2,c2,_,_,_,c3,c4,_⟩:=hcN k hkt
    have HXX:=hid (show l.take (k+1)=l.take k++[l[k]]from List.take_succ_eq_append_getElem hkt)
    clear hcN
    generalize l[k]=x at *
    obtain⟨kd,nn,pl,tx,ks⟩:=x
    dsimp only at c3 c4
    generalize hq:ks.length=q at *
    have HQ:=hid hq
    clear hq
    by_cases h1:(300:Int)<(q:Int)
    ·have hd1:decide ((300:Int)<(q:Int))=true:=decide_eq_true h1
     go_wp2
     go_ret
     exact⟨HB.out,false,rfl,λh=>by cases h⟩
    ·have hd1:decide ((300:Int)<(q:Int))=false:=decide_eq_false h1
     by_cases h2:(200:Int)<(tx.size:Int)
     ·have hd2:decide ((200:Int)<(tx.size:Int))=true:=decide_eq_true h2
      go_wp2
      go_ret
      exact⟨HB.out,false,rfl,λh=>by cases h⟩
     ·have hd2:decide ((200:Int)<(tx.size:Int))=false:=decide_eq_false h2
      go_wp2
      go_round
      case rel=>
       refine⟨k+1,by omega,by go_num,?_⟩
       rw[HXX.out]
       intro x hx
       rcases List.mem_append.1 hx with hx |hx
       ·exact HOK2.out x hx
       ·simp at hx;subst hx;exact⟨by show ks.length<=300;rw[HQ.out];omega,by show tx.size<=200;omega⟩
      case measure=>simp[intOf];omega
   ·obtain rfl:k=n:=by omega
    have hkz:¬(k:Int)<(k:Int):=by omega
    go_wp2
    go_ret
    refine⟨HB.out,true,rfl,λ_=>⟨by rw[<- HN.out];omega,?_⟩⟩
    have h5:=HOK2.out
    rw[List.take_of_length_le (by rw[<- HN.out];omega)]at h5
    exact h5
theorem Kd.ints {w:World}{X:Nat->Prop}{K:Option Addr}{ks:List Int}(h:Kd w X K ks):Ints w K ks:=λh0=>by
 obtain⟨b,cs,e,hb,hc,_⟩:=h (by omega)
 refine⟨b,0,e,(Array.getElem?_eq_some_iff.1 hb).1,λj hj =>?_⟩
 rw[cell_of_row w b (0+j) _ 3 (0,0) hb,Nat.zero_add]
 exact hc j hj
set_option maxRecDepth 100000 in
set_option maxHeartbeats 1500000 in
theorem sameInts_any {w:World}{A B:Option Addr}{xs ys:List Int}(hA:Ints w A xs)(hB:Ints w B ys)(hx:xs.length<=1000000)(_hy:ys.length<=1000000)(c d:Nat):Calls Tryz.prog 18 #[.slice A xs.length c,.slice B ys.length d] w (VPost (.bool (decide (xs=ys))) w):=by
 have HA:=hid hA
 have HB:=hid hB
 obtain⟨n,hn⟩:∃n,xs.length=n:=⟨_,rfl⟩
 obtain⟨m,hm⟩:∃m,ys.length=m:=⟨_,rfl⟩
 rw[hn,hm]
 have hn1:n<=1000000:=by omega
 have HN:=hid (And.intro hn hm)
 by_cases hnm:n=m
 ·subst hnm
  clear hA hB hn hm hx
  go_enter Tryz.func18,Tryz.ntmps18
  go_wp2
  go_loopg [5] n (λk v5 wr=>∃i:Nat,i+k=n/\v5 = .int .i64 (i:Int)/\Below w.heap.size w wr/\xs.take i=ys.take i)
  case atStart=>exact⟨0,Nat.zero_add _,rfl,Below.refl _ _,by simp⟩
  case round=>
   obtain⟨i,hi,rfl,hb,ht⟩:=hrel
   have HBW:=hid hb
   have HT:=hid ht
   have HGK:=hid hi
   clear ht hi
   by_cases hlt:i<n
   ·have hiz:(i:Int)<(n:Int):=by omega
    obtain⟨b1,o1,e1,hl1,hc1⟩:=HA.out (by have:=HN.out;omega)
    obtain⟨b2,o2,e2,hl2,hc2⟩:=HB.out (by have:=HN.out;omega)
    subst e1
    subst e2
    have hxi:i<xs.length:=by rw[HN.out.1];exact hlt
    have hyi:i<ys.length:=by rw[HN.out.2];exact hlt
    have y1:=(hb.cell (p:=⟨b1,o1+i,none⟩) hl1).trans (hc1 i hxi)
    have y2:=(hb.cell (p:=⟨b2,o2+i,none⟩) hl2).trans (hc2 i hyi)
    have HX:=hid (show xs.take (i+1)=xs.take i++[xs[i]]from List.take_succ_eq_append_getElem hxi)
    have HY:=hid (show ys.take (i+1)=ys.take i++[ys[i]]from List.take_succ_eq_append_getElem hyi)
    have HXI:=hid (And.intro hxi hyi)
    have HNE:=hid (show xs=ys->xs[i]=ys[i]from λe=>by subst e;rfl)
    generalize xs[i]=u at *
    generalize ys[i]=v at *
    clear hc1 hc2 hxi hyi hl1 hl2 hb
    by_cases huv:u=v
    ·subst huv
     go_upto_region 6 with(fail)
     go_quiet (fail)
     go_wp2
     go_roundg (n-(i+1))
     case measure=>have:=HGK.out;omega
     case rel=>exact⟨i+1,by omega,by go_num,Tk.below_drewN HBW.out _,by rw[HX.out,HY.out,HT.out]⟩
    ·have hne:(u != v)=true:=bne_iff_ne.2 huv
     have HD:=hid (show decide (xs=ys)=false from decide_eq_false λe=>huv (HNE.out e))
     clear huv
     go_upto_region 6 with(fail)
     go_quiet (fail)
     go_wp2
     go_ret
     exact⟨by rw[HD.out];rfl,Tk.below_drewN HBW.out _⟩
   ·obtain rfl:i=n:=by have:=HGK.out;omega
    have hiz:¬(i:Int)<(i:Int):=by omega
    have HD:=hid (show decide (xs=ys)=true from decide_eq_true (by
     have:=HT.out
     rwa [List.take_of_length_le (by rw[HN.out.1];omega),List.take_of_length_le (by rw[HN.out.2];omega)]at this))
    go_wp2
    go_ret
    exact⟨by rw[HD.out];rfl,HBW.out⟩
 ·have hd:((n:Int) != (m:Int))=true:=bne_iff_ne.2 (by omega)
  have HD:=hid (show decide (xs=ys)=false from decide_eq_false λe=>hnm (by rw[<- hn,<- hm,e]))
  rw[HD.out]
  clear hA hB hn hm hx hnm
  go_enter Tryz.func18,Tryz.ntmps18
  go_wp2
  go_ret
  exact⟨rfl,Below.refl _ _⟩
def GTf (w:World)(e:Ending)(w':World):Prop:=∃A c,e = .returned (.tuple #[.agg #[.slice A 15 c,.int .i64 14],.int .i64 0,.int .i64 0])/\Below w.heap.size w w'/\NdsB w.heap.size w' A (fxN.map cvN)
theorem ttf {B:Nat}{w:World}{A:Option Addr}(h:NdsB B w A (fxN.map cvN)):TT w A 15 (fxN.map cvN):=⟨h.nds,rfl,by decide +kernel,by decide +kernel,by decide +kernel,λp bA off K m c hp hA hc _ h2=>by have:=h.room hp hA hc;omega⟩
set_option maxRecDepth 100000 in
set_option maxHeartbeats 4000000 in
theorem shown14_any (w:World)(hE:Tk.Errs w):Calls Tryz.prog 14 #[] w (VPost (.bool true) w):=by
 have H1:=hid (show Calls Tryz.prog 48 #[.string ⟨#[112,114,111,99,32,109,97,105,110,40,41,32,123,32,118,97,114,32,120,32,105,110,116,59,32,120,32,61,32,105,110,32,108,111,59,32,105,102,32,120,32,60,32,49,32,123,32,111,117,116,32,108,111,32,120,59,32,125,32,125]⟩] w (GTf w) from(program_any _ w hE (by decide)).mono λ_ _ q=>tree_good q fx_ans.choose_spec)
 clear hE
 go_enter Tryz.func14,Tryz.ntmps14
 go_wp2_with (go_at_call 48;refine H1.out.mono ?_)
 rintro e w1 ⟨A1,c1,rfl,hb1,hN1⟩
 have HA1:=hid (bt hb1 (heap1 w1 (.cells #[.slice A1 15 c1,.int .i64 14] 24)))
 have HB1:=hid (show Calls Tryz.prog 16 #[.agg #[.slice A1 15 c1,.int .i64 14]] (w1.alloc (.cells #[.slice A1 15 c1,.int .i64 14] 24)) (λe w'=>∃v,e = .returned (.tuple #[v,.int .i64 0])/\GrP [⟨1,13,0,[3],-1⟩,⟨2,13,0,[],-1⟩,⟨3,13,0,[],-1⟩,⟨4,2,0,[5],-1⟩,⟨4,8,0,[1],-1⟩,⟨4,11,0,[4,1],-1⟩] [13] (w1.alloc (.cells #[.slice A1 15 c1,.int .i64 14] 24)) v w')from by
  have t:=build_yes ((ttf hN1).below (heap1 w1 (.cells #[.slice A1 15 c1,.int .i64 14] 24))) c1 14 (by unfold okT;rw[fx_chk];rfl)
  rw[fx_rs,fx_gr,fx_pr]at t
  exact t)
 have HX1:=hid (Bx.new w1 24 [.slice A1 15 c1,.int .i64 14])
 clear hb1 hN1 H1
 obtain⟨U1,hU1⟩:∃U1,w1.alloc (.cells #[.slice A1 15 c1,.int .i64 14] 24)=U1:=⟨_,rfl⟩
 rw[hU1]at HA1 HB1 HX1
 have a0:=(HX1.out.cell 0).trans rfl
 have a1:=(HX1.out.cell 1).trans rfl
 go_wp2_with (go_at_call 16;refine HB1.out.mono ?_)
 rintro e w2 ⟨v,rfl,V,U,base,rfl,hb2,hbase,hN,hO⟩
 obtain⟨gb,cap,hV,hgb,hc1,hc2,hGR⟩:=hN.gr (by decide)
 obtain⟨UA,uc,hU⟩:=own_slice hO
 subst hV
 subst hU
 have hg3:=hGR.below (heap1 w2 (.cells #[.slice (some ⟨gb,0,none⟩) 6 cap,.slice UA 1 uc] 30))
 have HX3:=hid (Bx.new w2 30 [.slice (some ⟨gb,0,none⟩) 6 cap,.slice UA 1 uc])
 have HA3:=hid (bt (bt HA1.out hb2) (heap1 w2 (.cells #[.slice (some ⟨gb,0,none⟩) 6 cap,.slice UA 1 uc] 30)))
 obtain⟨W3,hW3⟩:∃W3,w2.alloc (.cells #[.slice (some ⟨gb,0,none⟩) 6 cap,.slice UA 1 uc] 30)=W3:=⟨_,rfl⟩
 have hW3':w2.alloc (.cells #[.slice (some ⟨gb,0,none⟩) ([⟨1,13,0,[3],-1⟩,⟨2,13,0,[],-1⟩,⟨3,13,0,[],-1⟩,⟨4,2,0,[5],-1⟩,⟨4,8,0,[1],-1⟩,⟨4,11,0,[4,1],-1⟩]:List Gn).length cap,.slice UA ([13]:List Int).length uc] 30)=W3:=hW3
 rw[hW3]at hg3 HX3 HA3
 have HG3:=hid hg3
 obtain⟨cs,hbx,-,hcc⟩:=hg3
 obtain⟨-,-,-,-,K0,k0,e0,d0⟩:=hcc 0 (by decide)
 obtain⟨-,-,-,-,K1,k1,e1,-⟩:=hcc 1 (by decide)
 obtain⟨-,-,-,-,K2,k2,e2,-⟩:=hcc 2 (by decide)
 obtain⟨-,-,-,-,K3,k3,e3,d3⟩:=hcc 3 (by decide)
 obtain⟨-,-,-,-,K4,k4,e4,d4⟩:=hcc 4 (by decide)
 obtain⟨-,-,-,-,K5,k5,e5,d5⟩:=hcc 5 (by decide)
 have x0:W3.cell? ⟨gb,3,none⟩=some (.slice K0 1 k0):=(hbx.cell 3).trans e0
 have x1:W3.cell? ⟨gb,8,none⟩=some (.slice K1 0 k1):=(hbx.cell 8).trans e1
 have x2:W3.cell? ⟨gb,13,none⟩=some (.slice K2 0 k2):=(hbx.cell 13).trans e2
 have x3:W3.cell? ⟨gb,18,none⟩=some (.slice K3 1 k3):=(hbx.cell 18).trans e3
 have x4:W3.cell? ⟨gb,23,none⟩=some (.slice K4 1 k4):=(hbx.cell 23).trans e4
 have x5:W3.cell? ⟨gb,28,none⟩=some (.slice K5 2 k5):=(hbx.cell 28).trans e5
 obtain⟨b0,o0,rfl,-,q0⟩:=d0.ints (by decide)
 obtain⟨b3,o3,rfl,-,q3⟩:=d3.ints (by decide)
 obtain⟨b5,o5,rfl,-,q5⟩:=d5.ints (by decide)
 have y0:W3.cell? ⟨b0,o0,none⟩=some (.int .i64 3):=q0 0 (by decide)
 have y3:W3.cell? ⟨b3,o3,none⟩=some (.int .i64 5):=q3 0 (by decide)
 have y5:W3.cell? ⟨b5,o5,none⟩=some (.int .i64 4):=q5 0 (by decide)
 have y6:W3.cell? ⟨b5,o5+1,none⟩=some (.int .i64 1):=q5 1 (by decide)
 have HI4:=hid (show Ints W3 K4 [1]from d4.ints)
 have t0:=(HX3.out.cell 0).trans rfl
 have t1:=(HX3.out.cell 1).trans rfl
 clear hb2 hbase hN hO hc1 hc2 hGR hbx hcc e0 e1 e2 e3 e4 e5 d0 d3 d4 d5 q0 q3 q5 a0 a1 hU1 HB1 HX1 HA1
 have HS:=hid (λ(W:World) (q:Below W3.heap.size W3 W) (b:Nat) (h:Ints W (some ⟨b,0,none⟩) [1])=>sameInts_any (HI4.out.below q) h (by decide) (by decide) k4 1)
 have HEn:=hid (λ(W:World) (q:Below W3.heap.size W3 W)=>show Calls Tryz.prog 21 #[.agg #[.slice (some ⟨gb,0,none⟩) 6 cap,.slice UA 1 uc],.int .i64 0] W (VPost (.int .i64 0) W)from entry_any (HG3.out.below q) (by decide) cap UA 1 uc 0)
 have HEx:=hid (λ(W:World) (q:Below W3.heap.size W3 W)=>show Calls Tryz.prog 23 #[.agg #[.slice (some ⟨gb,0,none⟩) 6 cap,.slice UA 1 uc],.int .i64 0] W (VPost (.int .i64 1) W)from exit_any (HG3.out.below q) (by decide) cap UA 1 uc 0)
 have HFa:=hid (λ(W:World) (q:Below W3.heap.size W3 W)=>show Calls Tryz.prog 24 #[.agg #[.slice (some ⟨gb,0,none⟩) 6 cap,.slice UA 1 uc],.int .i64 0] W (VPost (.int .i64 2) W)from fail_any (HG3.out.below q) (by decide) cap UA 1 uc 0)
 have HALL:=hid (λ(W:World) (q:Below W3.heap.size W3 W)=>show W.cell? ⟨w2.heap.size,0,none⟩=some (.slice (some ⟨gb,0,none⟩) 6 cap)/\W.cell? ⟨w2.heap.size,1,none⟩=some (.slice UA 1 uc)/\W.cell? ⟨gb,8,none⟩=some (.slice K1 0 k1)/\W.cell? ⟨gb,13,none⟩=some (.slice K2 0 k2)/\W.cell? ⟨gb,23,none⟩=some (.slice K4 1 k4) from
  ⟨((HX3.out.below q HX3.out.lt).cell 0).trans rfl,((HX3.out.below q HX3.out.lt).cell 1).trans rfl,(q.cell (p:=⟨gb,8,none⟩) HG3.out.lt).trans x1,(q.cell (p:=⟨gb,13,none⟩) HG3.out.lt).trans x2,(q.cell (p:=⟨gb,23,none⟩) HG3.out.lt).trans x4⟩)
 go_upto_region 6 with(fail)
 go_quiet (fail)
 go_upto_region 8 with(fail)
 go_quiet (fail)
 go_upto_region 12 with(fail)
 clear t0 t1 x0 x1 x2 x3 x4 x5 y0 y3 y5 y6
 generalize hW5:W3.drewN _=W5
 have HB5:=hid (show Below W3.heap.size W3 W5 by rw[<- hW5];exact Tk.below_drewN (Below.refl _ _) _)
 have HS5:=hid (HS.out (W5.alloc (.cells #[.int .i64 1] 3)) (bt HB5.out (heap1 _ _)) W5.heap.size (kd_newF W5 (λ_=>False) [1] (λ_ h=>h.elim)).ints)
 obtain⟨t0,t1,x1,x2,x4⟩:=HALL.out _ HB5.out
 have HBS:=hid (bt HB5.out (heap1 W5 (.cells #[.int .i64 1] 3)))
 clear hW5 hW3' hW3
 go_wp2_with (first|(go_at_call 18;refine HS5.out.mono ?_;rintro e w6 ⟨rfl,hb6⟩;have HB6:=hid (bt HBS.out hb6);clear t0 t1 x1 x2 x4;obtain⟨t0,t1,x1,x2,x4⟩:=HALL.out _ HB6.out;clear hb6) |(go_at_call 21;refine(HEn.out _ HB6.out).mono ?_;rintro e w7 ⟨rfl,hb7⟩;have HB7:=hid (bt HB6.out hb7);clear t0 t1 x1 x2 x4;obtain⟨t0,t1,x1,x2,x4⟩:=HALL.out _ HB7.out;clear hb7) |(go_at_call 23;refine(HEx.out _ HB7.out).mono ?_;rintro e w8 ⟨rfl,hb8⟩;have HB8:=hid (bt HB7.out hb8);clear t0 t1 x1 x2 x4;obtain⟨t0,t1,x1,x2,x4⟩:=HALL.out _ HB8.out;clear hb8) |(go_at_call 24;refine(HFa.out _ HB8.out).mono ?_;rintro e w9 ⟨rfl,hb9⟩;have HB9:=hid (bt HB8.out hb9);clear hb9))
 go_ret
 exact⟨rfl,bt HA3.out HB9.out⟩
end Go.Proofs.YtedkgofehbecmaaGreatDoor
