/- PROVED here: parts Eg TyCx Ei of the claim. No condition but those in each theorem's own head. -/
import Derived.Test.YtignojhijmamhaaGreatJ34
import Derived.Test.YtignojhijmamhaaGreatJ47
import Derived.Test.YtignojhijmamhaaGreatJ22
import Derived.Test.YtignojhijmamhaaGreatJ48
import Derived.Test.YtignojhijmamhaaGreatJ31
namespace Go.Proofs.YtignojhijmamhaaGreat
open Go Go.RowKit Go.Sort
open Va (Bx heap1 bt VP VI V2 V3 str_eq str_ne below2 Hp C46 unR binR getV lenH tB)
open Ty (TT tpT pcT chkT)
open Ty.Tr (Nd rgB)
set_option maxRecDepth 100000 in
theorem isExpr_any (k:Int)(w:World):Calls Tryz.prog 20 #[.int .i64 k] w fun e w'=>e = .returned (.bool (decide (20≤k)&&decide (k≤27)))∧w=w':=by
 by_cases h:(20:Int)≤k
 ·have hd:decide ((20:Int)≤k)=true:=decide_eq_true h
  rw[hd,Bool.true_and]
  go_enter Tryz.func20,Tryz.ntmps20
  go_wp2
  go_ret
  exact⟨rfl,rfl⟩
 ·have hd:decide ((20:Int)≤k)=false:=decide_eq_false h
  rw[hd,Bool.false_and]
  go_enter Tryz.func20,Tryz.ntmps20
  go_wp2
  go_ret
  exact⟨rfl,rfl⟩
theorem kid_ex {kd:Int}{X:List Int}(h1:20≤kd)(h2:kd≤27)(h:Ty.Tr.kidB kd X=true):X.length≤2∧∀k ∈ X,20≤k∧k≤27:=by
 have hz:X.length=0→X.length≤2∧∀k ∈ X,20≤k∧k≤27:=fun e=>by
  have:=List.eq_nil_of_length_eq_zero e
  subst this
  exact⟨by simp,fun k hk=>by cases hk⟩
 have ha:∀m,m≤2→X.length=m→Ty.Tr.allB X=true→X.length≤2∧∀k ∈ X,20≤k∧k≤27:=fun m hm e q=>⟨by omega,fun k hk=>by
  have:=List.all_eq_true.1 q k hk
  unfold Ty.Tr.expB at this
  simpa using this⟩
 rcases(show kd=20∨kd=21∨kd=22∨kd=23∨kd=24∨kd=25∨kd=26∨kd=27 by omega)with rfl |rfl |rfl |rfl |rfl |rfl |rfl |rfl
 ·exact hz (by simpa [Ty.Tr.kidB]using h)
 ·exact hz (by simpa [Ty.Tr.kidB]using h)
 ·exact hz (by simpa [Ty.Tr.kidB]using h)
 ·have q:X.length=1∧Ty.Tr.allB X=true:=by simpa [Ty.Tr.kidB]using h
  exact ha 1 (by decide) q.1 q.2
 ·exact hz (by simpa [Ty.Tr.kidB]using h)
 ·exact hz (by simpa [Ty.Tr.kidB]using h)
 ·have q:X.length=1∧Ty.Tr.allB X=true:=by simpa [Ty.Tr.kidB]using h
  exact ha 1 (by decide) q.1 q.2
 ·have q:X.length=2∧Ty.Tr.allB X=true:=by simpa [Ty.Tr.kidB]using h
  exact ha 2 (by decide) q.1 q.2
theorem exok_of {l:List Nd}{r:Int}(h:rgB l r=true):ExOk l:=by
 obtain⟨⟨b,hb⟩,_,_⟩:=Ty.rtn_of h
 intro p hp h1 h2
 have hx:=List.all_eq_true.1 hb.sh l[p] (List.getElem_mem hp)
 unfold Ty.Tr.ndB at hx
 simp only[Bool.and_eq_true]at hx
 obtain⟨hl,hk⟩:=kid_ex h1 h2 hx.2.2.2.2
 rw[List.length_map]at hl
 refine⟨hl,fun e =>?_,fun k hkm =>?_⟩
 ·have:=hx.2.2.2.1
  rw[e]at this
  simpa [Ty.Tr.numB]using this
 ·have hn:=hb.nat hp k (by rw[Ty.ndA_eq hp];exact hkm)
  obtain⟨i,rfl,hi⟩:=hn
  have hil:i<l.length:=by omega
  have q:=hk _ (List.mem_map_of_mem hkm)
  rw[Int.toNat_natCast,Ty.Tr.nth_eq hil]at q
  exact⟨i,rfl,hi,hil,q⟩
noncomputable def evA (l:List Nd)(r:Int)(ns:List NV)(L:List (List Int))(z:Int):(Int × Int) × Int:=
 if 0≤z∧z<(l.length:Int)∧20≤(Ty.Tr.nth l z.toNat).kd∧(Ty.Tr.nth l z.toNat).kd≤27∧(chkT l r).2=0 then evV l r ns L l.length z.toNat else ((0,0),0)
section
variable {w:World} {A:Option Addr} {n:Nat} {l:List Nd} {B:Option Addr} {ns:List NV} {base g:Nat} {v:Value} {vs:List Value} {L:List (List Int)}
set_option maxRecDepth 100000 in
set_option maxHeartbeats 2000000 in
theorem Eval_any (h:Sc w A n l B ns base g v vs L)(c d:Nat)(r z:Int):Calls Tryz.prog 8 #[.agg #[.slice A n c,.int .i64 r],.int .i64 z,.slice B ns.length d,.pointer (some ⟨g,0,none⟩)] w (VI (evA l r ns L z).1.1 (evA l r ns L z).1.2 (evA l r ns L z).2 w):=by
 have HEV:=Lib.hid (fun(hx:ExOk l) (W:World) (b:Below w.heap.size w W) (p:Nat) (hp:p<l.length) (h1:20≤l[p].kd) (h2:l[p].kd≤27)=>eval_any hx c d r l.length p W (h.below b) hp hp h1 h2)
 have HCK:=Lib.hid (fun(W:World) (b:Below w.heap.size w W)=>Ty.check_any (h.below b).tt c r)
 unfold scn at HEV
 obtain⟨m,hm⟩:∃m,ns.length=m:=⟨_,rfl⟩
 rw[hm]at HEV ⊢
 have HLN:=Lib.hid h.tt.len
 have HN:=Lib.hid h.tt.nds
 have hX0:=(Bx.new w 24 [.slice A n c,.int .i64 r]).alloc (.cells #[.int .i64 0,.int .i64 0] 43)
 have hX1:=Bx.new (w.alloc (.cells #[.slice A n c,.int .i64 r] 24)) 43 [.int .i64 0,.int .i64 0]
 simp only[World.size_alloc]at hX1
 have hb0:Below w.heap.size w ((w.alloc (.cells #[.slice A n c,.int .i64 r] 24)).alloc (.cells #[.int .i64 0,.int .i64 0] 43)):=(heap1 _ _).alloc (by simp only[World.size_alloc];omega) _
 obtain⟨W0,hW0⟩:∃W0,((w.alloc (.cells #[.slice A n c,.int .i64 r] 24)).alloc (.cells #[.int .i64 0,.int .i64 0] 43))=W0:=⟨_,rfl⟩
 have HX0:=Lib.hid (show Bx W0 w.heap.size 24 [.slice A n c,.int .i64 r]by rw[← hW0];exact hX0)
 have HX1:=Lib.hid (show Bx W0 (w.heap.size+1) 43 [.int .i64 0,.int .i64 0]by rw[← hW0];exact hX1)
 rw[hW0]at hb0
 have HB0:=Lib.hid hb0
 have HRF:=Lib.hid (Below.refl W0.heap.size W0)
 have a0:=(HX0.out.cell 0).trans rfl
 have a1:=(HX0.out.cell 1).trans rfl
 clear hX0 hX1 hb0 hm h
 by_cases hz:z<0
 ·have HO:=Lib.hid (show evA l r ns L z=((0,0),0)by unfold evA;rw[if_neg (by omega)])
  go_enter Tryz.func8,Tryz.ntmps8
  go_upto_region 2 with(fail)
  have y1:=HX1.out.below HRF.out HX1.out.lt
  have c0:=(y1.cell 0).trans rfl
  have c1:=(y1.cell 1).trans rfl
  have f0:=y1.frozen 0
  have f1:=y1.frozen 1
  have HZ:=Lib.hid (bt HB0.out HRF.out)
  go_wp2
  have z:=(y1.set_ 0 (.int .i64 0)).set_ 1 (.int .i64 0)
  have c0:=(z.cell 0).trans rfl
  have c1:=(z.cell 1).trans rfl
  exact bodyPost_ret (v :=.tuple #[.agg #[.int .i64 0,.int .i64 0],.int .i64 0]) (by simp[results,Tryz.results8,go_sem,c0,c1]) rfl (by rw[HO.out];exact⟨rfl,below2 HZ.out (by omega)⟩)
 obtain⟨p,rfl⟩:∃p:Nat,z=(p:Int):=⟨z.toNat,by omega⟩
 by_cases hn:(n:Int)≤(p:Int)
 ·have HO:=Lib.hid (show evA l r ns L (p:Int)=((0,0),0)by unfold evA;have:=HLN.out;rw[if_neg (by omega)])
  go_enter Tryz.func8,Tryz.ntmps8
  go_upto_region 2 with(fail)
  have y1:=HX1.out.below HRF.out HX1.out.lt
  have c0:=(y1.cell 0).trans rfl
  have c1:=(y1.cell 1).trans rfl
  have f0:=y1.frozen 0
  have f1:=y1.frozen 1
  have HZ:=Lib.hid (bt HB0.out HRF.out)
  go_wp2
  have z:=(y1.set_ 0 (.int .i64 0)).set_ 1 (.int .i64 0)
  have c0:=(z.cell 0).trans rfl
  have c1:=(z.cell 1).trans rfl
  exact bodyPost_ret (v :=.tuple #[.agg #[.int .i64 0,.int .i64 0],.int .i64 0]) (by simp[results,Tryz.results8,go_sem,c0,c1]) rfl (by rw[HO.out];exact⟨rfl,below2 HZ.out (by omega)⟩)
 have hpl:p<l.length:=by have:=HLN.out;omega
 have hpn:(p:Int)<(n:Int):=by omega
 obtain⟨bA,off,K,cK,rfl,xt,x0,_,_,_,_,_⟩:=Ty.node_at (HN.out.below HB0.out) (Below.refl _ W0) p hpl
 obtain⟨kd,hkd⟩:∃kd,l[p].kd=kd:=⟨_,rfl⟩
 have hnth:(Ty.Tr.nth l ((p:Int)).toNat).kd=kd:=by rw[Int.toNat_natCast,Ty.Tr.nth_eq hpl,hkd]
 rw[hkd]at x0
 have HKD:=Lib.hid hkd
 have HNT:=Lib.hid hnth
 have HIS:=Lib.hid (isExpr_any kd W0)
 by_cases hk:(20:Int)≤kd∧kd≤27
 ·rw[decide_eq_true hk.1,decide_eq_true hk.2]at HIS
  have HKK:=Lib.hid hk
  have HC:=Lib.hid (HCK.out W0 HB0.out)
  obtain⟨⟨q1,q2⟩,hq⟩:∃R,chkT l r=R:=⟨_,rfl⟩
  rw[hq]at HC
  dsimp only at HC
  have HQ:=Lib.hid hq
  clear hk hkd hnth hq
  go_enter Tryz.func8,Tryz.ntmps8
  go_wp2_with (first|(go_at_call 20;refine HIS.out.mono ?_;rintro e w1 ⟨rfl,rfl⟩) |(go_at_call 21;refine HC.out.mono ?_))
  rintro e w2 ⟨rfl,hb2⟩
  by_cases hq2:q2=0
  ·subst hq2
   have hrg:rgB l r=true:=by
    cases hr:rgB l r with
    |true=>rfl
    |false=>have:=HQ.out;unfold chkT at this;rw[hr]at this;simp at this
   have HO:=Lib.hid (show evA l r ns L (p:Int)=evV l r ns L l.length p by unfold evA;rw[HNT.out,HQ.out,if_pos ⟨by omega,by omega,HKK.out.1,HKK.out.2,rfl⟩,Int.toNat_natCast])
   have HE:=Lib.hid (HEV.out (exok_of hrg) w2 (bt HB0.out hb2) p hpl (by rw[HKD.out];exact HKK.out.1) (by rw[HKD.out];exact HKK.out.2))
   obtain⟨⟨⟨y1,y2⟩,e0⟩,hy⟩:∃R,evV l r ns L l.length p=R:=⟨_,rfl⟩
   rw[hy]at HO HE
   dsimp only at HE
   have b0:=((HX0.out.below hb2 HX0.out.lt).cell 0).trans rfl
   have b1:=((HX0.out.below hb2 HX0.out.lt).cell 1).trans rfl
   have HX1a:=Lib.hid (HX1.out.below hb2 HX1.out.lt)
   have HB2:=Lib.hid (bt HB0.out hb2)
   clear hb2 hy a0 a1 x0
   go_wp2_with (go_at_call 22;refine HE.out.mono ?_)
   rintro e w3 ⟨rfl,hb3⟩
   have y1':=HX1a.out.below hb3 HX1a.out.lt
   have c0:=(y1'.cell 0).trans rfl
   have c1:=(y1'.cell 1).trans rfl
   have f0:=y1'.frozen 0
   have f1:=y1'.frozen 1
   have HZ:=Lib.hid (bt HB2.out hb3)
   clear b0 b1
   go_wp2
   have z:=(y1'.set_ 0 (.int .i64 y1)).set_ 1 (.int .i64 y2)
   have c0:=(z.cell 0).trans rfl
   have c1:=(z.cell 1).trans rfl
   exact bodyPost_ret (v :=.tuple #[.agg #[.int .i64 y1,.int .i64 y2],.int .i64 e0]) (by simp[results,Tryz.results8,go_sem,c0,c1]) rfl (by rw[HO.out];exact⟨rfl,below2 HZ.out (by omega)⟩)
  ·have hne:(q2 != 0)=true:=by simpa using hq2
   have HO:=Lib.hid (show evA l r ns L (p:Int)=((0,0),0)by unfold evA;rw[HQ.out,if_neg (fun q=>hq2 q.2.2.2.2)])
   clear a0 a1 x0 hq2
   have y1:=HX1.out.below hb2 HX1.out.lt
   have c0:=(y1.cell 0).trans rfl
   have c1:=(y1.cell 1).trans rfl
   have f0:=y1.frozen 0
   have f1:=y1.frozen 1
   have HZ:=Lib.hid (bt HB0.out hb2)
   go_wp2
   have z:=(y1.set_ 0 (.int .i64 0)).set_ 1 (.int .i64 0)
   have c0:=(z.cell 0).trans rfl
   have c1:=(z.cell 1).trans rfl
   exact bodyPost_ret (v :=.tuple #[.agg #[.int .i64 0,.int .i64 0],.int .i64 0]) (by simp[results,Tryz.results8,go_sem,c0,c1]) rfl (by rw[HO.out];exact⟨rfl,below2 HZ.out (by omega)⟩)
 ·have hdd:(decide ((20:Int)≤kd)&&decide (kd≤27))=false:=by
   rw[Bool.and_eq_false_iff]
   by_cases h1:(20:Int)≤kd
   ·exact .inr (decide_eq_false fun h2=>hk ⟨h1,h2⟩)
   ·exact .inl (decide_eq_false h1)
  rw[hdd]at HIS
  have HO:=Lib.hid (show evA l r ns L (p:Int)=((0,0),0)by unfold evA;rw[HNT.out,if_neg (fun q=>hk ⟨q.2.2.1,q.2.2.2.1⟩)])
  clear hk hkd hnth hdd
  go_enter Tryz.func8,Tryz.ntmps8
  go_upto_region 2 with(go_at_call 20;refine HIS.out.mono ?_;rintro e w1 ⟨rfl,rfl⟩)
  have y1:=HX1.out.below HRF.out HX1.out.lt
  have c0:=(y1.cell 0).trans rfl
  have c1:=(y1.cell 1).trans rfl
  have f0:=y1.frozen 0
  have f1:=y1.frozen 1
  have HZ:=Lib.hid (bt HB0.out HRF.out)
  go_wp2
  have z:=(y1.set_ 0 (.int .i64 0)).set_ 1 (.int .i64 0)
  have c0:=(z.cell 0).trans rfl
  have c1:=(z.cell 1).trans rfl
  exact bodyPost_ret (v :=.tuple #[.agg #[.int .i64 0,.int .i64 0],.int .i64 0]) (by simp[results,Tryz.results8,go_sem,c0,c1]) rfl (by rw[HO.out];exact⟨rfl,below2 HZ.out (by omega)⟩)
end
end Go.Proofs.YtignojhijmamhaaGreat
namespace Go.Proofs.YtignojhijmamhaaGreat.Ty
open Go Go.RowKit
open Tr (Bx heap1 bt Nds Ints VPost BPost rgB)
def OkT7 (l:List Tr.Nd):Prop:=l.length≤300∧∀x ∈ l,x.ks.length≤300∧x.tx.size≤200
def SmPost7 (l:List Tr.Nd)(w:World)(e:Ending)(w':World):Prop:=Below w.heap.size w w'∧∃b,e = .returned (.bool b)∧(b=true→OkT7 l)
set_option maxRecDepth 100000 in
set_option maxHeartbeats 1500000 in
theorem small35t_any (A:Option Addr)(n c:Nat)(l:List Tr.Nd)(r:Int)(w:World)(hN:Nds w A l)(hn:n=l.length):Calls Tryz.prog 5 #[.agg #[.slice A n c,.int .i64 r]] w (SmPost7 l w):=by
 have hb0:=heap1 w (.cells #[.slice A n c,.int .i64 r] 24)
 have HNN:=Lib.hid (hN.below hb0)
 have HB:=Lib.hid hb0
 have HN:=Lib.hid hn
 clear hN hn hb0
 by_cases h4:(300:Int)<(n:Int)
 ·have hd4:decide ((300:Int)<(n:Int))=true:=decide_eq_true h4
  go_enter Tryz.func5,Tryz.ntmps5
  go_wp2
  go_ret
  exact⟨HB.out,false,rfl,fun h=>by cases h⟩
 ·have hd4:decide ((300:Int)<(n:Int))=false:=decide_eq_false h4
  go_enter Tryz.func5,Tryz.ntmps5
  go_wp2
  go_loop [3] (fun i=>∃k:Nat,k≤n∧i = .int .i64 (k:Int)∧∀x ∈ l.take k,x.ks.length≤300∧x.tx.size≤200) (fun i=>n-(intOf i).toNat)
  case atStart=>exact⟨0,Nat.zero_le _,rfl,fun t ht=>by simp at ht⟩
  case round=>
   obtain⟨k,hk,rfl,hok2⟩:=hrel
   have HOK2:=Lib.hid hok2
   clear hok2
   by_cases hkl:k<n
   ·have hkz:(k:Int)<(n:Int):=by omega
    have hkt:k<l.length:=by rw[← HN.out];exact hkl
    obtain⟨bN,oN,rfl,hbN,hcN⟩:=HNN.out (by omega)
    obtain⟨K2,c2,_,_,_,c3,c4,_⟩:=hcN k hkt
    have HXX:=Lib.hid (show l.take (k+1)=l.take k++[l[k]]from List.take_succ_eq_append_getElem hkt)
    clear hcN
    generalize l[k]=x at *
    obtain⟨kd,nn,pl,tx,ks⟩:=x
    dsimp only at c3 c4
    generalize hq:ks.length=q at *
    have HQ:=Lib.hid hq
    clear hq
    by_cases h1:(300:Int)<(q:Int)
    ·have hd1:decide ((300:Int)<(q:Int))=true:=decide_eq_true h1
     go_wp2
     go_ret
     exact⟨HB.out,false,rfl,fun h=>by cases h⟩
    ·have hd1:decide ((300:Int)<(q:Int))=false:=decide_eq_false h1
     by_cases h2:(200:Int)<(tx.size:Int)
     ·have hd2:decide ((200:Int)<(tx.size:Int))=true:=decide_eq_true h2
      go_wp2
      go_ret
      exact⟨HB.out,false,rfl,fun h=>by cases h⟩
     ·have hd2:decide ((200:Int)<(tx.size:Int))=false:=decide_eq_false h2
      go_wp2
      go_round
      case rel=>
       refine⟨k+1,by omega,by go_num,?_⟩
       rw[HXX.out]
       intro x hx
       rcases List.mem_append.1 hx with hx |hx
       ·exact HOK2.out x hx
       ·simp at hx;subst hx;exact⟨by show ks.length≤300;rw[HQ.out];omega,by show tx.size≤200;omega⟩
      case measure=>simp[intOf];omega
   ·obtain rfl:k=n:=by omega
    have hkz:¬(k:Int)<(k:Int):=by omega
    go_wp2
    go_ret
    refine⟨HB.out,true,rfl,fun _=>⟨by rw[← HN.out];omega,?_⟩⟩
    have h5:=HOK2.out
    rw[List.take_of_length_le (by rw[← HN.out];omega)]at h5
    exact h5
end Go.Proofs.YtignojhijmamhaaGreat.Ty
namespace Go.Proofs.YtignojhijmamhaaGreat
open Go Go.RowKit Go.Sort
open Va (ap hpu h_one Bx heap1 bt VP VI V2 V3 BP str_eq str_ne below2 Hp C46 C49 Two Acts AV DoesP actH F2 append_wp own_below)
open Ty (TT tpT pcT chkT OkT7 SmPost7 Caps)
open Ty.Tr (Nd Nds rgB VPost)
theorem extwo_of {l:List Nd}{r:Int}(h:rgB l r=true):ExTwo l:=by
 obtain⟨⟨b,hb⟩,_,_⟩:=Ty.rtn_of h
 intro p hp
 have hx:=List.all_eq_true.1 hb.sh l[p] (List.getElem_mem hp)
 unfold Ty.Tr.ndB at hx
 simp only[Bool.and_eq_true]at hx
 have hk:=hx.2.2.2.2
 have one:∀kd,kd=23∨kd=26→Ty.Tr.kidB kd (l[p].ks.map (fun k=>(Ty.Tr.nth l k.toNat).kd))=true→l[p].ks.length=1:=by
  rintro kd (rfl |rfl) h
  ·have q:l[p].ks.length=1∧Ty.Tr.allB (l[p].ks.map (fun k=>(Ty.Tr.nth l k.toNat).kd))=true:=by simpa [Ty.Tr.kidB]using h
   exact q.1
  ·have q:l[p].ks.length=1∧Ty.Tr.allB (l[p].ks.map (fun k=>(Ty.Tr.nth l k.toNat).kd))=true:=by simpa [Ty.Tr.kidB]using h
   exact q.1
 refine⟨fun e=>one _ e hk,fun e =>?_⟩
 rw[e]at hk
 have q:l[p].ks.length=2∧Ty.Tr.allB (l[p].ks.map (fun k=>(Ty.Tr.nth l k.toNat).kd))=true:=by simpa [Ty.Tr.kidB]using hk
 exact q.1
section
variable {w:World} {A:Option Addr} {n:Nat} {l:List Nd} {B:Option Addr} {ns:List NV} {base g:Nat} {v:Value} {vs:List Value} {L:List (List Int)}
set_option maxRecDepth 100000 in
set_option maxHeartbeats 4000000 in
theorem rEval_any (h:Rc w A n l B ns base g v vs L)(c d:Nat)(r z:Int):Calls Tryz.prog 9 #[.agg #[.slice A n c,.int .i64 r],.int .i64 z,.slice B ns.length d,.pointer (some ⟨g,0,none⟩)] w (VI (evA l r ns L z).1.1 (evA l r ns L z).1.2 (evA l r ns L z).2 w):=by
 have HEV:=Lib.hid (fun(hx:ExOk l) (hy:ExTwo l) (W:World) (b:Below w.heap.size w W) (p:Nat) (hp:p<l.length) (h1:20≤l[p].kd) (h2:l[p].kd≤27)=>reval_any hx hy c d r l.length p W (h.below b) hp hp h1 h2)
 have HCK:=Lib.hid (fun(W:World) (b:Below w.heap.size w W)=>Ty.rcheck_any (h.below b).tt c r)
 obtain⟨m,hm⟩:∃m,ns.length=m:=⟨_,rfl⟩
 rw[hm]at HEV ⊢
 have HLN:=Lib.hid h.tt.len
 have HN:=Lib.hid h.tt.nds
 have hX0:=(Bx.new w 24 [.slice A n c,.int .i64 r]).alloc (.cells #[.int .i64 0,.int .i64 0] 49)
 have hX1:=Bx.new (w.alloc (.cells #[.slice A n c,.int .i64 r] 24)) 49 [.int .i64 0,.int .i64 0]
 simp only[World.size_alloc]at hX1
 have hb0:Below w.heap.size w ((w.alloc (.cells #[.slice A n c,.int .i64 r] 24)).alloc (.cells #[.int .i64 0,.int .i64 0] 49)):=(heap1 _ _).alloc (by simp only[World.size_alloc];omega) _
 obtain⟨W0,hW0⟩:∃W0,((w.alloc (.cells #[.slice A n c,.int .i64 r] 24)).alloc (.cells #[.int .i64 0,.int .i64 0] 49))=W0:=⟨_,rfl⟩
 have HX0:=Lib.hid (show Bx W0 w.heap.size 24 [.slice A n c,.int .i64 r]by rw[← hW0];exact hX0)
 have HX1:=Lib.hid (show Bx W0 (w.heap.size+1) 49 [.int .i64 0,.int .i64 0]by rw[← hW0];exact hX1)
 rw[hW0]at hb0
 have HB0:=Lib.hid hb0
 have a0:=(HX0.out.cell 0).trans rfl
 have a1:=(HX0.out.cell 1).trans rfl
 have HC:=Lib.hid (HCK.out W0 hb0)
 obtain⟨⟨q1,q2⟩,hq⟩:∃R,chkT l r=R:=⟨_,rfl⟩
 rw[hq]at HC
 dsimp only at HC
 have HQ:=Lib.hid hq
 clear hX0 hX1 hb0 hm h hq
 go_enter Tryz.func9,Tryz.ntmps9
 go_wp2_with (go_at_call 23;refine HC.out.mono ?_)
 rintro e w2 ⟨rfl,hb2⟩
 have HX0a:=Lib.hid (HX0.out.below hb2 HX0.out.lt)
 have HX1a:=Lib.hid (HX1.out.below hb2 HX1.out.lt)
 have HB2:=Lib.hid (bt HB0.out hb2)
 have a0:=(HX0a.out.cell 0).trans rfl
 have a1:=(HX0a.out.cell 1).trans rfl
 clear hb2 hW0
 by_cases hq2:q2=0
 ·subst hq2
  by_cases hz:z<0
  ·have hd:decide (z<0)=true:=decide_eq_true hz
   have HO:=Lib.hid (show evA l r ns L z=((0,0),0)by unfold evA;rw[if_neg (by omega)])
   have r0:=(HX1a.out.cell 0).trans rfl
   have r1:=(HX1a.out.cell 1).trans rfl
   have f0:=HX1a.out.frozen 0
   have f1:=HX1a.out.frozen 1
   go_wp2
   have z:=(HX1a.out.set_ 0 (.int .i64 0)).set_ 1 (.int .i64 0)
   have c0:=(z.cell 0).trans rfl
   have c1:=(z.cell 1).trans rfl
   exact bodyPost_ret (v :=.tuple #[.agg #[.int .i64 0,.int .i64 0],.int .i64 0]) (by simp[results,Tryz.results9,go_sem,c0,c1]) rfl (by rw[HO.out];exact⟨rfl,below2 HB2.out (by omega)⟩)
  have hd:decide (z<0)=false:=decide_eq_false hz
  obtain⟨p,rfl⟩:∃p:Nat,z=(p:Int):=⟨z.toNat,by omega⟩
  by_cases hn:(n:Int)≤(p:Int)
  ·have hd2:decide ((n:Int)≤(p:Int))=true:=decide_eq_true hn
   have HO:=Lib.hid (show evA l r ns L (p:Int)=((0,0),0)by unfold evA;have:=HLN.out;rw[if_neg (by omega)])
   have r0:=(HX1a.out.cell 0).trans rfl
   have r1:=(HX1a.out.cell 1).trans rfl
   have f0:=HX1a.out.frozen 0
   have f1:=HX1a.out.frozen 1
   go_wp2
   have z:=(HX1a.out.set_ 0 (.int .i64 0)).set_ 1 (.int .i64 0)
   have c0:=(z.cell 0).trans rfl
   have c1:=(z.cell 1).trans rfl
   exact bodyPost_ret (v :=.tuple #[.agg #[.int .i64 0,.int .i64 0],.int .i64 0]) (by simp[results,Tryz.results9,go_sem,c0,c1]) rfl (by rw[HO.out];exact⟨rfl,below2 HB2.out (by omega)⟩)
  have hd2:decide ((n:Int)≤(p:Int))=false:=decide_eq_false hn
  have hpl:p<l.length:=by have:=HLN.out;omega
  have hpn:(p:Int)<(n:Int):=by omega
  obtain⟨bA,off,K,cK,rfl,xt,x0,_,_,_,_,_⟩:=Ty.node_at (HN.out.below HB2.out) (Below.refl _ w2) p hpl
  obtain⟨kd,hkd⟩:∃kd,l[p].kd=kd:=⟨_,rfl⟩
  have hnth:(Ty.Tr.nth l ((p:Int)).toNat).kd=kd:=by rw[Int.toNat_natCast,Ty.Tr.nth_eq hpl,hkd]
  rw[hkd]at x0
  have HKD:=Lib.hid hkd
  have HNT:=Lib.hid hnth
  clear hkd hnth
  by_cases hk1:kd<20
  ·have hd3:decide (kd<20)=true:=decide_eq_true hk1
   have HO:=Lib.hid (show evA l r ns L (p:Int)=((0,0),0)by unfold evA;rw[HNT.out,if_neg (by omega)])
   have r0:=(HX1a.out.cell 0).trans rfl
   have r1:=(HX1a.out.cell 1).trans rfl
   have f0:=HX1a.out.frozen 0
   have f1:=HX1a.out.frozen 1
   go_wp2
   have z:=(HX1a.out.set_ 0 (.int .i64 0)).set_ 1 (.int .i64 0)
   have c0:=(z.cell 0).trans rfl
   have c1:=(z.cell 1).trans rfl
   exact bodyPost_ret (v :=.tuple #[.agg #[.int .i64 0,.int .i64 0],.int .i64 0]) (by simp[results,Tryz.results9,go_sem,c0,c1]) rfl (by rw[HO.out];exact⟨rfl,below2 HB2.out (by omega)⟩)
  have hd3:decide (kd<20)=false:=decide_eq_false hk1
  by_cases hk2:27<kd
  ·have hd4:decide (27<kd)=true:=decide_eq_true hk2
   have HO:=Lib.hid (show evA l r ns L (p:Int)=((0,0),0)by unfold evA;rw[HNT.out,if_neg (by omega)])
   have r0:=(HX1a.out.cell 0).trans rfl
   have r1:=(HX1a.out.cell 1).trans rfl
   have f0:=HX1a.out.frozen 0
   have f1:=HX1a.out.frozen 1
   go_wp2
   have z:=(HX1a.out.set_ 0 (.int .i64 0)).set_ 1 (.int .i64 0)
   have c0:=(z.cell 0).trans rfl
   have c1:=(z.cell 1).trans rfl
   exact bodyPost_ret (v :=.tuple #[.agg #[.int .i64 0,.int .i64 0],.int .i64 0]) (by simp[results,Tryz.results9,go_sem,c0,c1]) rfl (by rw[HO.out];exact⟨rfl,below2 HB2.out (by omega)⟩)
  have hd4:decide (27<kd)=false:=decide_eq_false hk2
  have hrg:rgB l r=true:=by
   cases hr:rgB l r with
   |true=>rfl
   |false=>have:=HQ.out;unfold chkT at this;rw[hr]at this;simp at this
  have HO:=Lib.hid (show evA l r ns L (p:Int)=evV l r ns L l.length p by unfold evA;rw[HNT.out,HQ.out,if_pos ⟨by omega,by omega,by omega,by omega,rfl⟩,Int.toNat_natCast])
  have HE:=Lib.hid (HEV.out (exok_of hrg) (extwo_of hrg) w2 HB2.out p hpl (by rw[HKD.out];omega) (by rw[HKD.out];omega))
  obtain⟨⟨⟨y1,y2⟩,e0⟩,hy⟩:∃R,evV l r ns L l.length p=R:=⟨_,rfl⟩
  rw[hy]at HO HE
  dsimp only at HE
  clear hy hrg
  go_wp2_with (go_at_call 24;refine HE.out.mono ?_)
  rintro e w3 ⟨rfl,hb3⟩
  have Y1:=HX1a.out.below hb3 HX1a.out.lt
  have r0:=(Y1.cell 0).trans rfl
  have r1:=(Y1.cell 1).trans rfl
  have f0:=Y1.frozen 0
  have f1:=Y1.frozen 1
  have HZ:=Lib.hid (bt HB2.out hb3)
  clear a0 a1 x0
  go_wp2
  have z:=(Y1.set_ 0 (.int .i64 y1)).set_ 1 (.int .i64 y2)
  have c0:=(z.cell 0).trans rfl
  have c1:=(z.cell 1).trans rfl
  exact bodyPost_ret (v :=.tuple #[.agg #[.int .i64 y1,.int .i64 y2],.int .i64 e0]) (by simp[results,Tryz.results9,go_sem,c0,c1]) rfl (by rw[HO.out];exact⟨rfl,below2 HZ.out (by omega)⟩)
 ·have hne:(q2 != 0)=true:=by simpa using hq2
  have HO:=Lib.hid (show evA l r ns L z=((0,0),0)by unfold evA;rw[HQ.out,if_neg (fun q=>hq2 q.2.2.2.2)])
  have r0:=(HX1a.out.cell 0).trans rfl
  have r1:=(HX1a.out.cell 1).trans rfl
  have f0:=HX1a.out.frozen 0
  have f1:=HX1a.out.frozen 1
  go_wp2
  have z:=(HX1a.out.set_ 0 (.int .i64 0)).set_ 1 (.int .i64 0)
  have c0:=(z.cell 0).trans rfl
  have c1:=(z.cell 1).trans rfl
  exact bodyPost_ret (v :=.tuple #[.agg #[.int .i64 0,.int .i64 0],.int .i64 0]) (by simp[results,Tryz.results9,go_sem,c0,c1]) rfl (by rw[HO.out];exact⟨rfl,below2 HB2.out (by omega)⟩)
end
end Go.Proofs.YtignojhijmamhaaGreat
