/- PROVED here: parts Fi Fr Fs Fj Fl Fm Fn Gd of the claim. No condition but those in each theorem's own head. -/
import Derived.Test.YtedkgofehbecmaaGreatDoorN38
import Derived.Test.YtedkgofehbecmaaGreatDoorN39
import Derived.Test.YtedkgofehbecmaaGreatDoorN42
import Derived.Test.YtedkgofehbecmaaGreatDoorN40
namespace Go.Proofs.YtedkgofehbecmaaGreatDoor
open Go Go.RowKit
open Tr (Bx heap1 bt)
set_option maxRecDepth 100000 in
set_option maxHeartbeats 1000000 in
theorem accepted_any {w:World}{A:Option Addr}{n:Nat}{l:List Tr.Nd}(h:TT w A n l)(c:Nat)(r:Int):Calls Tryz.prog 49 #[.agg #[.slice A n c,.int .i64 r]] w (VPost (.bool ((chkT l r).2==0)) w):=by
 have HC:=Lib.hid (check_any (h.below (heap1 w (.cells #[.slice A n c,.int .i64 r] 24))) c r)
 have HB:=Lib.hid (heap1 w (.cells #[.slice A n c,.int .i64 r] 24))
 obtain⟨⟨a,b⟩,hab⟩:∃q,chkT l r=q:=⟨_,rfl⟩
 rw[hab]at HC ⊢
 dsimp only at HC ⊢
 clear h hab
 go_enter Tryz.func49,Tryz.ntmps49
 go_wp2_with (refine HC.out.mono ?_;rintro e w' ⟨rfl,hb⟩)
 exact bodyPost_ret (v :=.bool (b==0)) (by simp[results,Tryz.f49,go_sem]) rfl ⟨rfl,bt HB.out hb⟩
end Go.Proofs.YtedkgofehbecmaaGreatDoor
namespace Go.Proofs.YtedkgofehbecmaaGreatDoor
open Go Go.RowKit
open Tr (Bx heap1 bt Nds Ints BPost IPost rgB Ib)
noncomputable def okT (l:List Tr.Nd)(r:Int):Bool:=(chkT l r).2==0
theorem ok_rg {l:List Tr.Nd}{r:Int}(h:okT l r=true):rgB l r=true:=by
 unfold okT chkT at h
 cases e:rgB l r with
 |true=>rfl
 |false=>rw[e]at h;simp at h
def GrP (G:List Gn)(P:List Int)(w:World)(v:Value)(w':World):Prop:=∃V U base,v = .agg #[V,U]∧Below w.heap.size w w'∧w.heap.size≤base∧GNodes w' (fun _=>False) base V G∧w'.ownsRow base 3 1 U P.length (P.map (Value.int .i64))
section
variable {w:World} {l:List Tr.Nd} {A:Option Addr} {n:Nat}
set_option maxRecDepth 100000 in
set_option maxHeartbeats 2000000 in
theorem build_no (h:TT w A n l)(c:Nat)(r:Int)(hr:okT l r=false):Calls Tryz.prog 16 #[.agg #[.slice A n c,.int .i64 r]] w (VPost (.tuple #[.agg #[.slice none 0 0,.slice none 0 0],.int .i64 1]) w):=by
 obtain⟨W0,hW0⟩:∃W0,(w.alloc (.cells #[.slice A n c,.int .i64 r] 24)).alloc (.cells #[.slice none 0 0,.slice none 0 0] 30)=W0:=⟨_,rfl⟩
 have hB0:Below w.heap.size w W0:=by rw[← hW0];exact((Below.refl _ w).alloc (Nat.le_refl _) _).alloc (by simp) _
 have HB0:=Lib.hid hB0
 have HX0:=Lib.hid (show Bx W0 w.heap.size 24 [.slice A n c,.int .i64 r]by rw[← hW0];exact(Bx.new w 24 _).alloc _)
 have HG0:=Lib.hid (show Bx W0 (w.heap.size+1) 30 [.slice none 0 0,.slice none 0 0] by
  rw[← hW0];have:=Bx.new (w.alloc (.cells #[.slice A n c,.int .i64 r] 24)) 30 [.slice none 0 0,.slice none 0 0];rw[World.size_alloc]at this;exact this)
 have HC:=accepted_any (h.below hB0) c r
 have hr':((chkT l r).2==0)=false:=hr
 rw[hr']at HC
 replace HC:=Lib.hid HC
 have a0:=(HX0.out.cell 0).trans rfl
 have a1:=(HX0.out.cell 1).trans rfl
 clear h hB0 hr hr'
 go_enter Tryz.func16,Tryz.ntmps16
 go_upto_region 2 with(go_at_call 49;refine HC.out.mono ?_;rintro e w1 ⟨rfl,hb1⟩)
 have hg1:=HG0.out.below hb1 HG0.out.lt
 have hgt:=(hg1.set_ 0 (.slice none 0 0)).set_ 1 (.slice none 0 0)
 simp only[List.set_cons_zero,List.set_cons_succ]at hgt
 have r0:=(hg1.cell 0).trans rfl
 have r1:=(hg1.cell 1).trans rfl
 have f0:=hg1.frozen 0
 have f1:=hg1.frozen 1
 have g0:=(hgt.cell 0).trans rfl
 have g1:=(hgt.cell 1).trans rfl
 have hb:=bt HB0.out hb1
 have HE:=Lib.hid (show Below w.heap.size w ((w1.setCell ⟨w.heap.size+1,0,none⟩ (.slice none 0 0)).setCell ⟨w.heap.size+1,1,none⟩ (.slice none 0 0)) from(hb.setCell (p:=⟨w.heap.size+1,0,none⟩) (Nat.le_succ _) _).setCell (p:=⟨w.heap.size+1,1,none⟩) (Nat.le_succ _) _)
 clear hg1 hgt hb1 hb a0 a1 hW0
 go_wp2
 exact bodyPost_ret (v :=.tuple #[.agg #[.slice none 0 0,.slice none 0 0],.int .i64 1]) (by simp[results,Tryz.f16,go_sem,g0,g1]) rfl ⟨rfl,HE.out⟩
set_option maxRecDepth 100000 in
set_option maxHeartbeats 2000000 in
theorem build_yes (h:TT w A n l)(c:Nat)(r:Int)(hr:okT l r=true):Calls Tryz.prog 16 #[.agg #[.slice A n c,.int .i64 r]] w (fun e w'=>∃v,e = .returned (.tuple #[v,.int .i64 0])∧GrP (grG l (rsF l r n)).G (grG l (rsF l r n)).P w v w'):=by
 obtain⟨W0,hW0⟩:∃W0,(w.alloc (.cells #[.slice A n c,.int .i64 r] 24)).alloc (.cells #[.slice none 0 0,.slice none 0 0] 30)=W0:=⟨_,rfl⟩
 have hB0:Below w.heap.size w W0:=by rw[← hW0];exact((Below.refl _ w).alloc (Nat.le_refl _) _).alloc (by simp) _
 have HB0:=Lib.hid hB0
 have HX0:=Lib.hid (show Bx W0 w.heap.size 24 [.slice A n c,.int .i64 r]by rw[← hW0];exact(Bx.new w 24 _).alloc _)
 have HG0:=Lib.hid (show Bx W0 (w.heap.size+1) 30 [.slice none 0 0,.slice none 0 0] by
  rw[← hW0];have:=Bx.new (w.alloc (.cells #[.slice A n c,.int .i64 r] 24)) 30 [.slice none 0 0,.slice none 0 0];rw[World.size_alloc]at this;exact this)
 have HC:=accepted_any (h.below hB0) c r
 have hr':((chkT l r).2==0)=true:=hr
 rw[hr']at HC
 replace HC:=Lib.hid HC
 have HBd:=Lib.hid (fun(W:World) (q:Below W0.heap.size W0 W)=>build_any ((h.below hB0).below q) c r (ok_rg hr))
 have a0:=(HX0.out.cell 0).trans rfl
 have a1:=(HX0.out.cell 1).trans rfl
 obtain⟨bs,hbs⟩:∃bs,grG l (rsF l r n)=bs:=⟨_,rfl⟩
 rw[hbs]
 have HBS:=Lib.hid hbs
 clear hbs
 clear h hB0 hr hr'
 go_enter Tryz.func16,Tryz.ntmps16
 go_wp2_with (go_at_call 49;refine HC.out.mono ?_)
 rintro e w1 ⟨rfl,hb1⟩
 have hx1:=HX0.out.below hb1 HX0.out.lt
 have HG1:=Lib.hid (HG0.out.below hb1 HG0.out.lt)
 have HB1:=Lib.hid hb1
 clear a0 a1
 have a0:=(hx1.cell 0).trans rfl
 have a1:=(hx1.cell 1).trans rfl
 clear hx1 hb1 hW0
 go_wp2_with (go_at_call 50;refine(HBd.out _ HB1.out).mono ?_)
 rintro e w2 ⟨V,U,base,rfl,hb2,hbase,hN,hO⟩
 rw[HBS.out]at hN hO
 obtain⟨VA,vc,hV⟩:=hN.slice
 obtain⟨UA,uc,hU⟩:=own_slice hO
 have hg2:=HG1.out.below hb2 HG1.out.lt
 have hgt:=(hg2.set_ 0 V).set_ 1 U
 simp only[List.set_cons_zero,List.set_cons_succ]at hgt
 have r0:=(hg2.cell 0).trans rfl
 have r1:=(hg2.cell 1).trans rfl
 have f0:=hg2.frozen 0
 have f1:=hg2.frozen 1
 have hFr:Fr (fun b=>b=w.heap.size+1) w2 ((w2.setCell ⟨w.heap.size+1,0,none⟩ V).setCell ⟨w.heap.size+1,1,none⟩ U):=((Fr.refl (fun b=>b=w.heap.size+1) w2).set rfl _).set rfl _
 have hsz1:=HG1.out.lt
 have hb9:Below w.heap.size w ((w2.setCell ⟨w.heap.size+1,0,none⟩ V).setCell ⟨w.heap.size+1,1,none⟩ U):=(((bt (bt HB0.out HB1.out) hb2).setCell (p:=⟨w.heap.size+1,0,none⟩) (Nat.le_succ _) _).setCell (p:=⟨w.heap.size+1,1,none⟩) (Nat.le_succ _) _)
 have HE:=Lib.hid (show GrP bs.G bs.P w (.agg #[V,U]) ((w2.setCell ⟨w.heap.size+1,0,none⟩ V).setCell ⟨w.heap.size+1,1,none⟩ U)from by
  refine⟨V,U,base,rfl,hb9,by omega,?_,?_⟩
  ·refine hN.move hFr (fun b hb e=>by have e:b=w.heap.size+1:=e;have:=(hN.blk hb).1;omega) (fun b cs hl hb hx=>⟨fun e =>?_,id⟩)
   have e:b=w.heap.size+1:=e
   subst e
   have:=hb.symm.trans hg2
   simp at this
  ·exact own_frN hO hFr (fun b hb e=>by have e:b=w.heap.size+1:=e;have:=(own_blk hO hb).1;omega))
 subst hV
 subst hU
 have g0:=(hgt.cell 0).trans rfl
 have g1:=(hgt.cell 1).trans rfl
 clear hg2 hgt hFr hb9 hb2 hbase hN hO hsz1 a0 a1
 go_wp2
 exact bodyPost_ret (v :=.tuple #[.agg #[.slice VA bs.G.length vc,.slice UA bs.P.length uc],.int .i64 0]) (by simp[results,Tryz.f16,go_sem,g0,g1]) rfl ⟨_,rfl,HE.out⟩
end
end Go.Proofs.YtedkgofehbecmaaGreatDoor
namespace Go.Proofs.YtedkgofehbecmaaGreatDoor
open Go Go.RowKit
open Tr (Bx heap1 bt Nds Ints BPost IPost rgB Ib)
theorem own_intsP {w:World}{base n c:Nat}{UA:Option Addr}{P:List Int}(h:w.ownsRow base 3 1 (.slice UA n c) P.length (P.map (Value.int .i64))):Ints w UA P:=fun h0=>by
 rcases h.2 with⟨e1,e2⟩ |⟨gb,cap,cur,e1,e2,e3,e4,e5,e6,e7⟩
 ·omega
 ·have e8:UA=some ⟨gb,0,none⟩:=by injection e1
  refine⟨gb,0,e8,(Array.getElem?_eq_some_iff.1 e3).1,fun j hj =>?_⟩
  rw[cell_of_row w gb (0+j) _ 3 (0,0) e3,Nat.zero_add,← Array.getElem?_toList]
  have:(P.map (Value.int .i64))[j]?=some (.int .i64 P[j]):=by simp[hj]
  rw[← e7,List.getElem?_take_of_lt (by omega)]at this
  exact this
section
variable {w:World} {l:List Tr.Nd} {A:Option Addr} {n:Nat}
set_option maxRecDepth 100000 in
set_option maxHeartbeats 2000000 in
theorem raises_in (h:TT w A n l)(c:Nat)(r:Int)(hr:okT l r=true){i:Nat}(hi:i<n):Calls Tryz.prog 19 #[.agg #[.slice A n c,.int .i64 r],.int .i64 (i:Int)] w (VPost (.bool (rsF l r n i)) w):=by
 have hb0:=heap1 w (.cells #[.slice A n c,.int .i64 r] 24)
 have HX:=Lib.hid (Bx.new w 24 [.slice A n c,.int .i64 r])
 have HB0:=Lib.hid hb0
 have hT0:=h.below hb0
 obtain⟨W0,hW0⟩:∃W0,w.alloc (.cells #[.slice A n c,.int .i64 r] 24)=W0:=⟨_,rfl⟩
 rw[hW0]at hT0 HX HB0
 have HC:=accepted_any hT0 c r
 have hr':((chkT l r).2==0)=true:=hr
 rw[hr']at HC
 replace HC:=Lib.hid HC
 have HR:=Lib.hid (fun(W:World) (q:Below W0.heap.size W0 W)=>raising_any (hT0.below q) c r (ok_rg hr))
 have hn4:n≤4000:=by rw[h.len];exact(rtn_of (ok_rg hr)).2.1
 have hd0:decide ((i:Int)<0)=false:=decide_eq_false (by omega)
 have hd1:decide ((n:Int)≤(i:Int))=false:=decide_eq_false (by omega)
 have hiz:(i:Int)<(n:Int):=by omega
 obtain⟨R,hR⟩:∃R,rsF l r n=R:=⟨_,rfl⟩
 have HRR:=Lib.hid hR
 have a0:=(HX.out.cell 0).trans rfl
 have a1:=(HX.out.cell 1).trans rfl
 clear h hT0 hb0 hr hr' hR
 go_enter Tryz.func19,Tryz.ntmps19
 go_wp2_with (go_at_call 49;refine HC.out.mono ?_)
 rintro e w1 ⟨rfl,hb1⟩
 have hx1:=HX.out.below hb1 HX.out.lt
 have HB1:=Lib.hid hb1
 clear a0 a1 hb1 hW0
 have a0:=(hx1.cell 0).trans rfl
 have a1:=(hx1.cell 1).trans rfl
 clear hx1
 go_wp2_with (go_at_call 56;refine(HR.out _ HB1.out).mono ?_)
 rintro e w2 ⟨rb,rfl,hbb,hge,hb2⟩
 rw[HRR.out]at hbb
 have y:=hbb.cell (i:=i) (by omega)
 have HE:=Lib.hid (bt (bt HB0.out HB1.out) hb2)
 clear hbb hge hb2 a0 a1
 go_wp2
 go_ret
 exact⟨by rw[HRR.out];rfl,HE.out⟩
end
end Go.Proofs.YtedkgofehbecmaaGreatDoor
namespace Go.Proofs.YtedkgofehbecmaaGreatDoor
open Go Go.RowKit
open Tr (Bx heap1 bt)
set_option maxRecDepth 100000 in
set_option maxHeartbeats 1000000 in
theorem of1_any (w:World)(b:Nat)(kd pl pr rs at_:Int)(K:Option Addr)(m c:Nat)(hb:Bx w b 3 [.int .i64 at_]):Calls Tryz.prog 62 #[.agg #[.int .i64 kd,.int .i64 pl,.int .i64 pr,.slice K m c,.int .i64 rs],.pointer (some ⟨b,0,none⟩)] w (VPost (.bool (kd==4&&pl==at_)) w):=by
 have HB:=Lib.hid (heap1 w (.cells #[.int .i64 kd,.int .i64 pl,.int .i64 pr,.slice K m c,.int .i64 rs] 42))
 have c0:=(hb.alloc (.cells #[.int .i64 kd,.int .i64 pl,.int .i64 pr,.slice K m c,.int .i64 rs] 42)).cell 0
 simp only[List.getElem?_cons_zero]at c0
 clear hb
 by_cases h0:kd=4
 ·subst h0
  go_enter Tryz.func62,Tryz.ntmps62
  go_wp2
  exact bodyPost_ret (v :=.bool (pl==at_)) (by simp[results,Tryz.f62,go_sem]) rfl ⟨by simp,HB.out⟩
 ·have e:(kd==4)=false:=by simp[h0]
  go_enter Tryz.func62,Tryz.ntmps62
  go_wp2
  exact bodyPost_ret (v :=.bool false) (by simp[results,Tryz.f62,go_sem]) rfl ⟨by simp[e],HB.out⟩
set_option maxRecDepth 100000 in
set_option maxHeartbeats 1000000 in
theorem end1_any (w:World)(b d:Nat)(kd pl pr rs kind proc:Int)(K:Option Addr)(m c:Nat)(hb:Bx w b 3 [.int .i64 kind])(hd:Bx w d 3 [.int .i64 proc]):Calls Tryz.prog 99 #[.agg #[.int .i64 kd,.int .i64 pl,.int .i64 pr,.slice K m c,.int .i64 rs],.pointer (some ⟨b,0,none⟩),.pointer (some ⟨d,0,none⟩)] w (VPost (.bool (kd==kind&&pr==proc)) w):=by
 have HB:=Lib.hid (heap1 w (.cells #[.int .i64 kd,.int .i64 pl,.int .i64 pr,.slice K m c,.int .i64 rs] 42))
 have c0:=(hb.alloc (.cells #[.int .i64 kd,.int .i64 pl,.int .i64 pr,.slice K m c,.int .i64 rs] 42)).cell 0
 have d0:=(hd.alloc (.cells #[.int .i64 kd,.int .i64 pl,.int .i64 pr,.slice K m c,.int .i64 rs] 42)).cell 0
 simp only[List.getElem?_cons_zero]at c0 d0
 clear hb hd
 by_cases h0:kd=kind
 ·subst h0
  go_enter Tryz.func99,Tryz.ntmps99
  go_wp2
  exact bodyPost_ret (v :=.bool (pr==proc)) (by simp[results,Tryz.f99,go_sem]) rfl ⟨by simp,HB.out⟩
 ·have e:(kd==kind)=false:=by simp[h0]
  go_enter Tryz.func99,Tryz.ntmps99
  go_wp2
  exact bodyPost_ret (v :=.bool false) (by simp[results,Tryz.f99,go_sem]) rfl ⟨by simp[e],HB.out⟩
end Go.Proofs.YtedkgofehbecmaaGreatDoor
namespace Go.Proofs.YtedkgofehbecmaaGreatDoor
open Go Go.RowKit
open Tr (Bx heap1 bt)
def ixF (P:Gn→Bool):List Gn→Nat→Int
 | [],_ => -1
 |x :: l,j=>if P x=true then (j:Int) else ixF P l (j+1)
set_option maxRecDepth 100000 in
set_option maxHeartbeats 2000000 in
theorem of_ix {w:World}{gb M:Nat}{X:Nat→Prop}{G:List Gn}(h:GR w gb M X G)(hN:G.length≤100000)(c:Nat){b:Nat}(at_:Int)(hb3:Bx w b 3 [.int .i64 at_]) :
  Calls Tryz.prog 61 #[.slice (some ⟨gb,0,none⟩) G.length c,.func (.func 62) #[] #[.pointer (some ⟨b,0,none⟩)]] w (VPost (.int .i64 (ixF (fun x:Gn=>x.kd==4&&x.pl==at_) G 0)) w):=by
 obtain⟨n,hn⟩:∃n,G.length=n:=⟨_,rfl⟩
 have HN:=Lib.hid hn
 have HG:=Lib.hid h
 obtain⟨R,hR⟩:∃R,ixF (fun x:Gn=>x.kd==4&&x.pl==at_) G 0=R:=⟨_,rfl⟩
 have HR:=Lib.hid hR
 rw[hn]at hN ⊢
 rw[hR]
 clear h hn hR
 go_enter Tryz.func61,Tryz.ntmps61
 go_wp2
 go_loopw [8] (fun i wr=>∃j:Nat,j≤n∧i = .int .i64 (j:Int)∧Below w.heap.size w wr∧ixF (fun x:Gn=>x.kd==4&&x.pl==at_) (G.drop j) j=R) (fun i _=>n-(intOf i).toNat)
 case atStart=>exact⟨0,Nat.zero_le _,rfl,Below.refl _ _,HR.out⟩
 case round=>
  obtain⟨j,hj,rfl,hb,hix⟩:=hrel
  by_cases hlt:j<n
  ·have hlz:(j:Int)<(n:Int):=by omega
   have hjl:j<G.length:=by rw[HN.out];exact hlt
   obtain⟨cs,h1,-,h3⟩:=HG.out.below hb
   obtain⟨a0,a1,a2,a4,K,kc,a3,-⟩:=h3 j hjl
   have d0:=(h1.cell (j*5)).trans a0
   have d1:=(h1.cell (j*5+1)).trans a1
   have d2:=(h1.cell (j*5+2)).trans a2
   have d3:=(h1.cell (j*5+3)).trans a3
   have d4:=(h1.cell (j*5+4)).trans a4
   rw[List.drop_eq_getElem_cons hjl]at hix
   unfold ixF at hix
   obtain⟨x,hx⟩:∃x,G[j]'hjl=x:=⟨_,rfl⟩
   rw[hx]at d0 d1 d2 d3 d4 hix
   have HC:=Lib.hid (of1_any wr b x.kd x.pl x.pr x.rs at_ K x.nx.length kc (hb3.below hb hb3.lt))
   have HB:=Lib.hid hb
   clear h1 h3 a0 a1 a2 a3 a4 hx hb
   cases hp:(x.kd==4&&x.pl==at_)
   ·rw[hp]at hix
    rw[hp]at HC
    go_wp2_with (refine HC.out.mono ?_;rintro e w' ⟨rfl,hb2⟩)
    go_roundw
    case rel=>exact⟨j+1,by omega,by go_num,bt HB.out hb2,by simpa using hix⟩
    case measure=>simp[intOf];omega
   ·rw[hp]at hix
    rw[hp]at HC
    go_wp2_with (refine HC.out.mono ?_;rintro e w' ⟨rfl,hb2⟩)
    exact bodyPost_ret (v :=.int .i64 R) (by simp[results,Tryz.f61,go_sem];simpa using hix) rfl ⟨rfl,bt HB.out hb2⟩
  ·obtain rfl:j=n:=by omega
   have hlz:¬(j:Int)<(j:Int):=by omega
   have e:R = -1:=by rw[← hix,List.drop_eq_nil_of_le (by rw[HN.out];omega)];rfl
   subst e
   go_wp2
   exact bodyPost_ret (v :=.int .i64 (-1)) (by simp[results,Tryz.f61,go_sem]) rfl ⟨rfl,hb⟩
set_option maxRecDepth 100000 in
set_option maxHeartbeats 2000000 in
theorem end_ix {w:World}{gb M:Nat}{X:Nat→Prop}{G:List Gn}(h:GR w gb M X G)(hN:G.length≤100000)(c:Nat){b d:Nat}(kind proc:Int)(hb3:Bx w b 3 [.int .i64 kind])(hd3:Bx w d 3 [.int .i64 proc]) :
  Calls Tryz.prog 61 #[.slice (some ⟨gb,0,none⟩) G.length c,.func (.func 99) #[] #[.pointer (some ⟨b,0,none⟩),.pointer (some ⟨d,0,none⟩)]] w (VPost (.int .i64 (ixF (fun x:Gn=>x.kd==kind&&x.pr==proc) G 0)) w):=by
 obtain⟨n,hn⟩:∃n,G.length=n:=⟨_,rfl⟩
 have HN:=Lib.hid hn
 have HG:=Lib.hid h
 obtain⟨R,hR⟩:∃R,ixF (fun x:Gn=>x.kd==kind&&x.pr==proc) G 0=R:=⟨_,rfl⟩
 have HR:=Lib.hid hR
 rw[hn]at hN ⊢
 rw[hR]
 clear h hn hR
 go_enter Tryz.func61,Tryz.ntmps61
 go_wp2
 go_loopw [8] (fun i wr=>∃j:Nat,j≤n∧i = .int .i64 (j:Int)∧Below w.heap.size w wr∧ixF (fun x:Gn=>x.kd==kind&&x.pr==proc) (G.drop j) j=R) (fun i _=>n-(intOf i).toNat)
 case atStart=>exact⟨0,Nat.zero_le _,rfl,Below.refl _ _,HR.out⟩
 case round=>
  obtain⟨j,hj,rfl,hb,hix⟩:=hrel
  by_cases hlt:j<n
  ·have hlz:(j:Int)<(n:Int):=by omega
   have hjl:j<G.length:=by rw[HN.out];exact hlt
   obtain⟨cs,h1,-,h3⟩:=HG.out.below hb
   obtain⟨a0,a1,a2,a4,K,kc,a3,-⟩:=h3 j hjl
   have d0:=(h1.cell (j*5)).trans a0
   have d1:=(h1.cell (j*5+1)).trans a1
   have d2:=(h1.cell (j*5+2)).trans a2
   have d3:=(h1.cell (j*5+3)).trans a3
   have d4:=(h1.cell (j*5+4)).trans a4
   rw[List.drop_eq_getElem_cons hjl]at hix
   unfold ixF at hix
   obtain⟨x,hx⟩:∃x,G[j]'hjl=x:=⟨_,rfl⟩
   rw[hx]at d0 d1 d2 d3 d4 hix
   have HC:=Lib.hid (end1_any wr b d x.kd x.pl x.pr x.rs kind proc K x.nx.length kc (hb3.below hb hb3.lt) (hd3.below hb hd3.lt))
   have HB:=Lib.hid hb
   clear h1 h3 a0 a1 a2 a3 a4 hx hb
   cases hp:(x.kd==kind&&x.pr==proc)
   ·rw[hp]at hix
    rw[hp]at HC
    go_wp2_with (refine HC.out.mono ?_;rintro e w' ⟨rfl,hb2⟩)
    go_roundw
    case rel=>exact⟨j+1,by omega,by go_num,bt HB.out hb2,by simpa using hix⟩
    case measure=>simp[intOf];omega
   ·rw[hp]at hix
    rw[hp]at HC
    go_wp2_with (refine HC.out.mono ?_;rintro e w' ⟨rfl,hb2⟩)
    exact bodyPost_ret (v :=.int .i64 R) (by simp[results,Tryz.f61,go_sem];simpa using hix) rfl ⟨rfl,bt HB.out hb2⟩
  ·obtain rfl:j=n:=by omega
   have hlz:¬(j:Int)<(j:Int):=by omega
   have e:R = -1:=by rw[← hix,List.drop_eq_nil_of_le (by rw[HN.out];omega)];rfl
   subst e
   go_wp2
   exact bodyPost_ret (v :=.int .i64 (-1)) (by simp[results,Tryz.f61,go_sem]) rfl ⟨rfl,hb⟩
end Go.Proofs.YtedkgofehbecmaaGreatDoor
namespace Go.Proofs.YtedkgofehbecmaaGreatDoor
open Go Go.RowKit
open Tr (Bx heap1 bt)
set_option maxRecDepth 100000 in
set_option maxHeartbeats 1000000 in
theorem of_any {w:World}{gb M:Nat}{X:Nat→Prop}{G:List Gn}(h:GR w gb M X G)(hN:G.length≤100000)(c:Nat)(PA:Option Addr)(np cp:Nat)(at_:Int) :
  Calls Tryz.prog 25 #[.agg #[.slice (some ⟨gb,0,none⟩) G.length c,.slice PA np cp],.int .i64 at_] w (VPost (.int .i64 (ixF (fun x:Gn=>x.kd==4&&x.pl==at_) G 0)) w):=by
 obtain⟨W0,hW0⟩:∃W0,(w.alloc (.cells #[.slice (some ⟨gb,0,none⟩) G.length c,.slice PA np cp] 30)).alloc (.cells #[.int .i64 at_] 3)=W0:=⟨_,rfl⟩
 have hB:Below w.heap.size w W0:=by rw[← hW0];exact((Below.refl _ w).alloc (Nat.le_refl _) _).alloc (by simp) _
 have hb3:Bx W0 (w.heap.size+1) 3 [.int .i64 at_]:=by
  rw[← hW0];have:=Bx.new (w.alloc (.cells #[.slice (some ⟨gb,0,none⟩) G.length c,.slice PA np cp] 30)) 3 [.int .i64 at_];rw[World.size_alloc]at this;exact this
 have hb30:Bx W0 w.heap.size 30 [.slice (some ⟨gb,0,none⟩) G.length c,.slice PA np cp]:=by rw[← hW0];exact(Bx.new w 30 _).alloc _
 have HC:=Lib.hid (of_ix (h.below hB) hN c at_ hb3)
 have HB:=Lib.hid hB
 have c0:=(hb30.cell 0).trans rfl
 clear h hN hB hb3 hb30
 generalize ixF (fun x:Gn=>x.kd==4&&x.pl==at_) G 0=R at *
 generalize G.length=N at *
 go_enter Tryz.func25,Tryz.ntmps25
 go_wp2_with (refine HC.out.mono ?_;rintro e w' ⟨rfl,hb⟩)
 exact bodyPost_ret (v :=.int .i64 R) (by simp[results,Tryz.f25,go_sem]) rfl ⟨rfl,bt HB.out hb⟩
set_option maxRecDepth 100000 in
set_option maxHeartbeats 1000000 in
theorem end_any {w:World}{gb M:Nat}{X:Nat→Prop}{G:List Gn}(h:GR w gb M X G)(hN:G.length≤100000)(c:Nat)(PA:Option Addr)(np cp:Nat)(kind proc:Int) :
  Calls Tryz.prog 60 #[.agg #[.slice (some ⟨gb,0,none⟩) G.length c,.slice PA np cp],.int .i64 kind,.int .i64 proc] w (VPost (.int .i64 (ixF (fun x:Gn=>x.kd==kind&&x.pr==proc) G 0)) w):=by
 obtain⟨W0,hW0⟩:∃W0,((w.alloc (.cells #[.slice (some ⟨gb,0,none⟩) G.length c,.slice PA np cp] 30)).alloc (.cells #[.int .i64 kind] 3)).alloc (.cells #[.int .i64 proc] 3)=W0:=⟨_,rfl⟩
 have hB:Below w.heap.size w W0:=by rw[← hW0];exact(((Below.refl _ w).alloc (Nat.le_refl _) _).alloc (by simp) _).alloc (by simp;omega) _
 have hb3:Bx W0 (w.heap.size+1) 3 [.int .i64 kind]:=by
  rw[← hW0];have:=(Bx.new (w.alloc (.cells #[.slice (some ⟨gb,0,none⟩) G.length c,.slice PA np cp] 30)) 3 [.int .i64 kind]).alloc (.cells #[.int .i64 proc] 3);rw[World.size_alloc]at this;exact this
 have hd3:Bx W0 (w.heap.size+1+1) 3 [.int .i64 proc]:=by
  rw[← hW0];have:=Bx.new ((w.alloc (.cells #[.slice (some ⟨gb,0,none⟩) G.length c,.slice PA np cp] 30)).alloc (.cells #[.int .i64 kind] 3)) 3 [.int .i64 proc];rw[World.size_alloc,World.size_alloc]at this;exact this
 have hb30:Bx W0 w.heap.size 30 [.slice (some ⟨gb,0,none⟩) G.length c,.slice PA np cp]:=by rw[← hW0];exact((Bx.new w 30 _).alloc _).alloc _
 have HC:=Lib.hid (end_ix (h.below hB) hN c kind proc hb3 hd3)
 have HB:=Lib.hid hB
 have c0:=(hb30.cell 0).trans rfl
 clear h hN hB hb3 hd3 hb30
 generalize ixF (fun x:Gn=>x.kd==kind&&x.pr==proc) G 0=R at *
 generalize G.length=N at *
 go_enter Tryz.func60,Tryz.ntmps60
 go_wp2_with (refine HC.out.mono ?_;rintro e w' ⟨rfl,hb⟩)
 exact bodyPost_ret (v :=.int .i64 R) (by simp[results,Tryz.f60,go_sem]) rfl ⟨rfl,bt HB.out hb⟩
end Go.Proofs.YtedkgofehbecmaaGreatDoor
namespace Go.Proofs.YtedkgofehbecmaaGreatDoor
open Go Go.RowKit
open Tr (Bx heap1 bt)
set_option maxRecDepth 100000 in
set_option maxHeartbeats 1000000 in
theorem entry_any {w:World}{gb M:Nat}{X:Nat→Prop}{G:List Gn}(h:GR w gb M X G)(hN:G.length≤100000)(c:Nat)(PA:Option Addr)(np cp:Nat)(proc:Int) :
  Calls Tryz.prog 21 #[.agg #[.slice (some ⟨gb,0,none⟩) G.length c,.slice PA np cp],.int .i64 proc] w (VPost (.int .i64 (ixF (fun x:Gn=>x.kd==1&&x.pr==proc) G 0)) w):=by
 have hB:=heap1 w (.cells #[.slice (some ⟨gb,0,none⟩) G.length c,.slice PA np cp] 30)
 have HC:=Lib.hid (end_any (h.below hB) hN c PA np cp 1 proc)
 have HB:=Lib.hid hB
 clear h hN hB
 generalize ixF (fun x:Gn=>x.kd==1&&x.pr==proc) G 0=R at *
 generalize G.length=N at *
 go_enter Tryz.func21,Tryz.ntmps21
 go_wp2_with (refine HC.out.mono ?_;rintro e w' ⟨rfl,hb⟩)
 exact bodyPost_ret (v :=.int .i64 R) (by simp[results,Tryz.f21,go_sem]) rfl ⟨rfl,bt HB.out hb⟩
set_option maxRecDepth 100000 in
set_option maxHeartbeats 1000000 in
theorem exit_any {w:World}{gb M:Nat}{X:Nat→Prop}{G:List Gn}(h:GR w gb M X G)(hN:G.length≤100000)(c:Nat)(PA:Option Addr)(np cp:Nat)(proc:Int) :
  Calls Tryz.prog 23 #[.agg #[.slice (some ⟨gb,0,none⟩) G.length c,.slice PA np cp],.int .i64 proc] w (VPost (.int .i64 (ixF (fun x:Gn=>x.kd==2&&x.pr==proc) G 0)) w):=by
 have hB:=heap1 w (.cells #[.slice (some ⟨gb,0,none⟩) G.length c,.slice PA np cp] 30)
 have HC:=Lib.hid (end_any (h.below hB) hN c PA np cp 2 proc)
 have HB:=Lib.hid hB
 clear h hN hB
 generalize ixF (fun x:Gn=>x.kd==2&&x.pr==proc) G 0=R at *
 generalize G.length=N at *
 go_enter Tryz.func23,Tryz.ntmps23
 go_wp2_with (refine HC.out.mono ?_;rintro e w' ⟨rfl,hb⟩)
 exact bodyPost_ret (v :=.int .i64 R) (by simp[results,Tryz.f23,go_sem]) rfl ⟨rfl,bt HB.out hb⟩
set_option maxRecDepth 100000 in
set_option maxHeartbeats 1000000 in
theorem fail_any {w:World}{gb M:Nat}{X:Nat→Prop}{G:List Gn}(h:GR w gb M X G)(hN:G.length≤100000)(c:Nat)(PA:Option Addr)(np cp:Nat)(proc:Int) :
  Calls Tryz.prog 24 #[.agg #[.slice (some ⟨gb,0,none⟩) G.length c,.slice PA np cp],.int .i64 proc] w (VPost (.int .i64 (ixF (fun x:Gn=>x.kd==3&&x.pr==proc) G 0)) w):=by
 have hB:=heap1 w (.cells #[.slice (some ⟨gb,0,none⟩) G.length c,.slice PA np cp] 30)
 have HC:=Lib.hid (end_any (h.below hB) hN c PA np cp 3 proc)
 have HB:=Lib.hid hB
 clear h hN hB
 generalize ixF (fun x:Gn=>x.kd==3&&x.pr==proc) G 0=R at *
 generalize G.length=N at *
 go_enter Tryz.func24,Tryz.ntmps24
 go_wp2_with (refine HC.out.mono ?_;rintro e w' ⟨rfl,hb⟩)
 exact bodyPost_ret (v :=.int .i64 R) (by simp[results,Tryz.f24,go_sem]) rfl ⟨rfl,bt HB.out hb⟩
end Go.Proofs.YtedkgofehbecmaaGreatDoor
namespace Go.Proofs.YtedkgofehbecmaaGreatDoor
open Go
section
open Tr (nth)
variable {l:List Tr.Nd} {b:Nat→Nat} {R:Nat→Bool} {t:List (Nat × Nat)} {first:Nat} {s:BdS}
theorem ixF_no (P:Gn→Bool):∀(G:List Gn) (j:Nat),(∀x ∈ G,P x=false)→ixF P G j = -1
 | [],_,_=>rfl
 |x :: G,j,h=>by
  unfold ixF
  rw[if_neg (by rw[h x (by simp)];decide)]
  exact ixF_no P G (j+1) fun y hy=>h y (by simp[hy])
theorem ixF_some (P:Gn→Bool):∀(G:List Gn) (j:Nat),(∃x ∈ G,P x=true)→∃i,∃hi:i<G.length,ixF P G j=((j+i:Nat):Int)∧P G[i]=true
 | [],_,h=>by obtain⟨x,hx,_⟩:=h;cases hx
 |x :: G,j,h=>by
  by_cases hx:P x=true
  ·exact⟨0,by simp,by unfold ixF;rw[if_pos hx];rfl,hx⟩
  ·obtain⟨y,hy,hp⟩:=h
   obtain⟨i,h1,h2,h3⟩:=ixF_some P G (j+1) ⟨y,by
    rcases List.mem_cons.1 hy with e |hy
    ·rw[e]at hp;exact absurd hp hx
    ·exact hy,hp⟩
   refine⟨i+1,by simp;omega,?_,h3⟩
   unfold ixF
   rw[if_neg hx,h2];congr 1;omega
theorem IsG.of (hs:IsG l b R t first s){q:Nat}(hq:q<first)(hst:stmB (nth l q).kd=true):∃(i:Nat) (hi:i<s.G.length) (p:Nat) (hp:p<t.length),ixF (fun x:Gn=>x.kd==4&&x.pl==(q:Int)) s.G 0=(i:Int)∧t[p].1≤q∧q<t[p].2∧Gd l R (p:Int) (offG l t p) (offG l t (p+1)) q s.G[i]:=by
 obtain⟨p,hp,h1,h2⟩:=hs.cov q hq hst
 obtain⟨x,e1,e2⟩:=(hs.seg p hp).stp _ q (stsL_at h1 h2 hst)
 obtain⟨i,hi,e3,e4⟩:=ixF_some (fun x:Gn=>x.kd==4&&x.pl==(q:Int)) s.G 0 ⟨x,List.mem_of_getElem? e1,by rw[e2.bs.kd,e2.bs.pl];simp⟩
 rw[Nat.zero_add]at e3
 simp only[Bool.and_eq_true,beq_iff_eq]at e4
 rcases hs.at i hi with⟨p',hp',hi',k,hx,_⟩ |⟨p',hp',hi',hx⟩ |⟨p',hp',hi',hx⟩ |⟨p',hp',q',hi',hq',hst',hx⟩
 ·rw[hx]at e4;have e5:=e4.1;simp at e5
 ·rw[hx]at e4;have e5:=e4.1;simp at e5
 ·rw[hx]at e4;have e5:=e4.1;simp at e5
 ·have:=hx.bs.pl
  rw[e4.2]at this
  obtain rfl:q=q':=by omega
  exact⟨i,hi,p',hp',e3,hq'.1,hq'.2,hx⟩
theorem IsG.of_no (hs:IsG l b R t first s){z:Int}(hz:∀q:Nat,z=(q:Int)→stmB (nth l q).kd=false):ixF (fun x:Gn=>x.kd==4&&x.pl==z) s.G 0 = -1:=ixF_no _ _ _ fun x hx=>by
 obtain⟨i,hi,rfl⟩:=List.mem_iff_getElem.1 hx
 rcases hs.at i hi with⟨p',hp',hi',k,hx,_⟩ |⟨p',hp',hi',hx⟩ |⟨p',hp',hi',hx⟩ |⟨p',hp',q',hi',hq',hst',hx⟩
 ·rw[hx];rfl
 ·rw[hx];rfl
 ·rw[hx];rfl
 ·rw[hx.bs.kd,hx.bs.pl]
  cases e:((q':Int)==z) with
  |false=>simp
  |true=>
   have:=hz q' (by simp at e;exact e.symm)
   rw[this]at hst';cases hst'
theorem IsG.count (h:RtN l b)(hs:IsG l b R t (l.length-1) s):(stsL l 0 l.length).length+3*t.length=s.G.length:=by
 have hl:=h.len
 have:=stsL_succ l (a:=0) (z:=l.length-1) (Nat.zero_le _)
 rw[show l.length-1+1=l.length by omega]at this
 have hr:(nth l (l.length-1)).kd=1:=h.root
 rw[hr]at this
 rw[this]
 have hc:=hs.cnt
 rw[show stmB 1=false by decide]
 simpa using hc
theorem chk_proc {l:List Tr.Nd}{r:Int}(h:(chkA l r).2=0):∃m:Nat,m<l.length∧(nth l m).kd=3:=by
 unfold chkA at h
 split at h
 ·next p e=>
  obtain⟨_,_,h3,_⟩:=fstA_some e
  have h:fauA l p=0:=h
  rw[h]at h3
  simp at h3
 ·next e=>
  by_cases hm:manB l=true
  ·unfold manB at hm
   split at hm
   ·cases hm
   ·next q e2=>
    unfold prF at e2
    obtain⟨_,h2,h3,_⟩:=fstA_some e2
    unfold prB at h3
    simp only[Bool.and_eq_true,decide_eq_true_eq]at h3
    have h4:=h3.1
    unfold ndA at h4
    rw[Int.toNat_natCast]at h4
    exact⟨q,h2,h4⟩
  ·rw[if_neg hm]at h
   simp at h
theorem IsG.pos (h:RtN l b){r:Int}(hc:(chkA l r).2=0)(hs:IsG l b R t (l.length-1) s):0<t.length:=by
 obtain⟨m,hm,h3⟩:=chk_proc hc
 have:m≠l.length-1:=fun e=>by
  have hr:(nth l (l.length-1)).kd=1:=h.root
  rw[e,hr]at h3;exact absurd h3 (by decide)
 obtain⟨x,hx,_⟩:=hs.prc m (by omega) h3
 exact List.length_pos_of_mem hx
theorem IsG.big (hs:IsG l b R t first s):3*t.length≤s.G.length∧s.G.length≤4*first:=by
 have h1:=hs.cnt
 have h2:=hs.bnd
 have h3:=stsL_len l 0 first
 omega
end
end Go.Proofs.YtedkgofehbecmaaGreatDoor
