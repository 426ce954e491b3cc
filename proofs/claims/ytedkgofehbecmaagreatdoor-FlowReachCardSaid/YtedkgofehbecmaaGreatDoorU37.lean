/- PROVED here: parts N39 of the claim. No condition but those in each theorem's own head. -/
import Derived.Test.YtedkgofehbecmaaGreatDoorU34
import Derived.Test.YtedkgofehbecmaaGreatDoorU26
namespace Go.Proofs.YtedkgofehbecmaaGreatDoor
open Go.Lib (hid)
open Go Go.RowKit
open Tr (Bx heap1 bt Nds Ints VPost BPost rgB)
section
variable {w:World} {l:List Tr.Nd} {A:Option Addr} {n:Nat}
set_option maxRecDepth 100000 in
set_option maxHeartbeats 8000000 in
theorem check_any (h:TT w A n l)(c:Nat)(r:Int):Calls Tryz.prog 86 #[.agg #[.slice A n c,.int .i64 r]] w (VPost (.tuple #[.int .i64 (chkT l r).1,.int .i64 (chkT l r).2]) w):=by
 have hb0:=heap1 w (.cells #[.slice A n c,.int .i64 r] 24)
 have HB0:=hid hb0
 have HR:=hid (read_any (h.below hb0) c r)
 have HT:=hid (Bx.new w 24 [.slice A n c,.int .i64 r])
 unfold chkT
 cases hr:rgB l r with
 |false=>
  rw[eff_no hr]at HR
  rw[if_neg (by decide)]
  clear h hb0 hr
  go_enter Tryz.func86,Tryz.ntmps86
  go_wp2_with (go_at_call 68;refine HR.out.mono ?_)
  rintro e w1 ⟨A1,n1,c1,O,co,bd,bp,rfl,hP,_,hb1⟩
  unfold PrV
  obtain rfl:n1=0:=hP.len
  have hN:=isNothing_any (w1.alloc (.cells #[.slice A1 0 c1,.slice O 0 co,.map (some bd),.map (some bp)] 87)) A1 O 0 bd bp c1 co
  unfold PrV at hN
  have HN:=hid hN
  have HB1:=hid (bt (bt HB0.out hb1) (heap1 w1 (.cells #[.slice A1 0 c1,.slice O 0 co,.map (some bd),.map (some bp)] 87)))
  clear hP hb1 hN
  go_wp2_with (go_at_call 132;refine HN.out.mono ?_)
  rintro e w2 ⟨rfl,hb2⟩
  have HB2:=hid (bt HB1.out hb2)
  clear hb2
  go_wp2
  exact bodyPost_ret (v :=.tuple #[.int .i64 0,.int .i64 1]) (by simp[results,Tryz.f86,go_sem]) rfl ⟨rfl,HB2.out⟩
 |true=>
  rw[eff_yes hr]at HR
  rw[if_pos rfl]
  obtain⟨⟨b,hRt⟩,hx4,hx5⟩:=rtn_of hr
  have HX4:=hid hx4
  clear hx4 hx5
  have HRT:=hid hRt
  clear h hb0 hr hRt
  go_enter Tryz.func86,Tryz.ntmps86
  go_wp2_with (go_at_call 68;refine HR.out.mono ?_)
  rintro e w1 ⟨A1,n1,c1,O,co,bd,bp,rfl,hP,hC,hb1⟩
  unfold PrV
  have hbx:=heap1 w1 (.cells #[.slice A1 n1 c1,.slice O n1 co,.map (some bd),.map (some bp)] 87)
  have hN:=isNothing_any (w1.alloc (.cells #[.slice A1 n1 c1,.slice O n1 co,.map (some bd),.map (some bp)] 87)) A1 O n1 bd bp c1 co
  have hX:=Bx.new w1 87 [.slice A1 n1 c1,.slice O n1 co,.map (some bd),.map (some bp)]
  have hT:=(HT.out.below hb1 HT.out.lt).alloc (.cells #[.slice A1 n1 c1,.slice O n1 co,.map (some bd),.map (some bp)] 87)
  have HL:=hid hP.len
  have h0:decide (n1=0)=false:=decide_eq_false (by have:=HRT.out.len;have:=HL.out;omega)
  rw[h0]at hN
  unfold PrV at hN
  have HN:=hid hN
  have HB1:=hid (bt (bt HB0.out hb1) hbx)
  have HP:=hid (And.intro (hP.below hbx) (hC.below hP.nds hbx))
  have HX:=hid (And.intro hX hT)
  clear hP hC hb1 hN hX hT hbx h0 HR HT
  go_wp2_with (go_at_call 132;refine HN.out.mono ?_)
  rintro e w2 ⟨rfl,hb2⟩
  have HX2:=hid (And.intro (HX.out.1.below hb2 HX.out.1.lt) (HX.out.2.below hb2 HX.out.2.lt))
  have HP2:=hid (And.intro (HP.out.1.below hb2) (HP.out.2.below HP.out.1.nds hb2))
  have HB2:=hid (bt HB1.out hb2)
  have c0:=(HX2.out.1.cell 0).trans rfl
  clear hb2 HX HP HB1 HN
  go_wp2
  clear c0
  go_loopg [14] n1 (λg a14 wr=>∃i:Nat,a14 = .int .i64 (i:Int)/\i<=n1/\g=n1-i/\(∀j,j<i->fauA l j=0)/\Below w2.heap.size w2 wr)
  case atStart=>exact⟨0,rfl,Nat.zero_le _,rfl,λj hj=>absurd hj (Nat.not_lt_zero _),Below.refl _ _⟩
  case round=>
   obtain⟨i,rfl,hi,rfl,ht,hb⟩:=hrel
   have HB:=hid hb
   have HE:=hid ht
   have hn4:n1<=4000:=by have:=HL.out;have:=HX4.out;omega
   have hXr:=HX2.out.1.below hb HX2.out.1.lt
   have b0:=(hXr.cell 0).trans rfl
   have b1:=(hXr.cell 1).trans rfl
   have b2:=(hXr.cell 2).trans rfl
   have b3:=(hXr.cell 3).trans rfl
   by_cases hlt:i<n1
   ·have hlz:(i:Int)<(n1:Int):=by omega
    have hil:i<l.length:=by rw[<- HL.out];exact hlt
    have hC:=fault_any (HP2.out.1.below hb) (HP2.out.2.below HP2.out.1.nds hb) c1 co i hlt (HRT.out.ndf hil)
    unfold PrV at hC
    have HC:=hid hC
    have HIL:=hid hil
    obtain⟨fz,hfz⟩:∃fz,fauA l i=fz:=⟨_,rfl⟩
    rw[hfz]at HC
    have HFZ:=hid hfz
    clear hXr hb ht hC hfz hil
    by_cases hz:fz=0
    ·subst hz
     go_wp2_with (go_at_call 133;refine HC.out.mono ?_)
     rintro e w3 ⟨rfl,hb3⟩
     have HB3:=hid (bt HB.out hb3)
     clear hb3
     go_wp2
     go_roundg (n1-(i+1))
     case measure=>go_light;omega
     case rel=>
      go_light
      exact⟨i+1,by go_num,by omega,rfl,λj hj=>by rcases Nat.lt_or_eq_of_le (Nat.le_of_lt_succ hj)with e |e;exact HE.out j e;rw[e];exact HFZ.out,HB3.out⟩
    ·have hzn:(fz != 0)=true:=by simp[hz]
     have HRS:=hid (show chkA l r=((i:Int),fz) by
      unfold chkA
      rw[fstA_is (Nat.zero_le i) HIL.out (by simp[HFZ.out,hz]) (λj _ hj=>by simp[HE.out j hj])]
      show((i:Int),fauA l i)=_
      rw[HFZ.out])
     clear hz
     go_wp2_with (go_at_call 133;refine HC.out.mono ?_)
     rintro e w3 ⟨rfl,hb3⟩
     have HB3:=hid (bt HB.out hb3)
     clear hb3
     go_wp2
     exact bodyPost_ret (v :=.tuple #[.int .i64 (i:Int),.int .i64 fz]) (by simp[results,Tryz.f86,go_sem]) rfl ⟨by rw[HRS.out];try rfl,bt HB2.out HB3.out⟩
   ·have hlz:¬(i:Int)<(n1:Int):=by omega
    have HN0:=hid (show fstA (λp => !decide (fauA l p=0)) 0 l.length=none by
     cases e:fstA (λp => !decide (fauA l p=0)) 0 l.length with
     |none=>rfl
     |some q=>
      obtain⟨_,h2,h3,_⟩:=fstA_some e
      have h4:=HE.out q (by have:=HL.out;omega)
      simp[h4]at h3)
    have hC:=hasMain_any (HP2.out.1.below hb) c1 co
    unfold PrV at hC
    have HC:=hid hC
    have hTr:=HX2.out.2.below hb HX2.out.2.lt
    have HTR:=hid hTr
    clear hXr hb ht hC hTr
    cases hm:manB l with
    |true=>
     rw[hm]at HC
     have HRS:=hid (show chkA l r=(0,0)by unfold chkA;rw[HN0.out];show(if manB l then _ else _)=_;rw[hm];rfl)
     clear hm
     go_wp2_with (go_at_call 134;refine HC.out.mono ?_)
     rintro e w3 ⟨rfl,hb3⟩
     have HB3:=hid (bt HB.out hb3)
     clear hb3
     go_wp2
     exact bodyPost_ret (v :=.tuple #[.int .i64 0,.int .i64 0]) (by simp[results,Tryz.f86,go_sem]) rfl ⟨by rw[HRS.out];try rfl,bt HB2.out HB3.out⟩
    |false=>
     rw[hm]at HC
     have HRS:=hid (show chkA l r=(r,11)by unfold chkA;rw[HN0.out];show(if manB l then _ else _)=_;rw[hm];rfl)
     clear hm
     go_wp2_with (go_at_call 134;refine HC.out.mono ?_)
     rintro e w3 ⟨rfl,hb3⟩
     have t1:=((HTR.out.below hb3 HTR.out.lt).cell 1).trans rfl
     have HB3:=hid (bt HB.out hb3)
     clear hb3
     go_wp2
     exact bodyPost_ret (v :=.tuple #[.int .i64 r,.int .i64 11]) (by simp[results,Tryz.f86,go_sem]) rfl ⟨by rw[HRS.out];try rfl,bt HB2.out HB3.out⟩
end
end Go.Proofs.YtedkgofehbecmaaGreatDoor
namespace Go.Proofs.YtedkgofehbecmaaGreatDoor
open Go.Lib (hid)
open Go Go.RowKit
open Tr (Bx heap1 bt Nds Ints VPost BPost rgB)
end Go.Proofs.YtedkgofehbecmaaGreatDoor
namespace Go.Proofs.YtedkgofehbecmaaGreatDoor
open Go.Lib (hid)
open Go Go.RowKit
open Tr (Bx heap1 bt Nds Ints VPost BPost rgB par par_yes par_node paL kidsAt IsPost)
end Go.Proofs.YtedkgofehbecmaaGreatDoor
namespace Go.Proofs.YtedkgofehbecmaaGreatDoor
open Go.Lib (hid)
open Go
theorem fl_kid {l:List Tr.Nd}{b:Nat->Nat}(h:RtN l b){p:Nat}(hp:p<l.length):Tr.kidB (Tr.nth l p).kd ((Tr.nth l p).ks.map λk=>(Tr.nth l k.toNat).kd)=true:=by
 have h1:=(nd_ok h.sh hp).kid
 unfold kdsA ndA at h1
 rw[Int.toNat_natCast]at h1
 exact h1
section
open Tr (nth expB allB kidB StU stK stK_in stK_mem kidsAt shB)
variable {l:List Tr.Nd} {b:Nat->Nat}
theorem fl_st (h:RtN l b){p:Nat}(hp:p<l.length):stK b (nth l p).ks.reverse p=some (b p):=by
 have:=h.st p hp
 rw[Tr.kidsAt_eq hp,<- Tr.nth_eq hp]at this
 exact this
theorem fl_in (h:RtN l b){p q:Nat}(hp:p<l.length)(h1:b p<=q)(h2:q<p):∃m:Nat,(m:Int) ∈ (nth l p).ks/\b m<=q/\q<=m/\m<p:=by
 obtain⟨m,e1,e2,e3,e4⟩:=stK_in _ _ _ q (λq hq=>h.st.le q (by omega)) (fl_st h hp) h1 h2
 exact⟨m,List.mem_reverse.1 e1,e2,e3,e4⟩
theorem fl_mem (h:RtN l b){p:Nat}(hp:p<l.length){k:Int}(hk:k ∈ (nth l p).ks):∃m:Nat,k=(m:Int)/\m<p/\b p<=b m/\b m<=m:=by
 obtain⟨m,e1,e2,e3⟩:=stK_mem _ _ _ (λq hq=>h.st.le q (by omega)) (fl_st h hp) k (List.mem_reverse.2 hk)
 exact⟨m,e1,e2,e3,h.st.le m (by omega)⟩
def noS (k:Int):Bool:=expB k || (decide (k=18) || decide (k=19))
theorem noS_st {k:Int}(h:noS k=true):stmB k=false:=by
 unfold noS expB at h
 unfold stmB
 simp only[Bool.or_eq_true,Bool.and_eq_true,decide_eq_true_eq]at h
 rw[Bool.and_eq_false_iff]
 simp only[decide_eq_false_iff_not]
 omega
theorem expS {k:Int}(h:expB k=true):noS k=true:=by unfold noS;rw[h];rfl
theorem allS {ks:List Int}(h:allB ks=true):∀x ∈ ks,noS x=true:=λx hx=>expS (List.all_eq_true.1 h x hx)
theorem kidN {k:Int}{ks:List Int}(hk:noS k=true)(h:kidB k ks=true):∀x ∈ ks,noS x=true:=by
 unfold noS expB at hk
 simp only[Bool.or_eq_true,Bool.and_eq_true,decide_eq_true_eq]at hk
 unfold kidB at h
 rw[if_neg (by omega),if_neg (by omega),if_neg (by omega)]at h
 split at h
 ·simp only[Bool.and_eq_true]at h;exact allS h.2
 split at h
 ·simp only[Bool.and_eq_true]at h;exact allS h.2
 rw[if_neg (by omega),if_neg (by omega),if_neg (by omega),if_neg (by omega),if_neg (by omega),if_neg (by omega),if_neg (by omega)]at h
 have:=of_decide_eq_true h
 rw[List.length_eq_zero_iff.1 this]
 intro x hx;cases hx
theorem kidP {k:Int}{ks:List Int}(hk:stmB k=true)(h11:k≠11)(h12:k≠12)(h16:k≠16)(h:kidB k ks=true):∀x ∈ ks,noS x=true:=by
 unfold stmB at hk
 simp only[Bool.and_eq_true,decide_eq_true_eq]at hk
 unfold kidB at h
 rw[if_neg (by omega),if_neg (by omega),if_neg (by omega)]at h
 split at h
 ·simp only[Bool.and_eq_true]at h;exact allS h.2
 split at h
 ·simp only[Bool.and_eq_true]at h;exact allS h.2
 split at h
 ·simp only[Bool.and_eq_true,decide_eq_true_eq]at h
  match ks,h with
  | [a],h=>
   have:=h.2
   simp only[List.getD_cons_zero]at this
   intro x hx;simp at hx;subst hx;subst this;rfl
 split at h
 ·simp only[Bool.and_eq_true,decide_eq_true_eq]at h
  match ks,h with
  | [a,c],h=>
   have h1:=h.1.2
   have h2:=h.2
   simp only[List.getD_cons_zero,List.getD_cons_succ]at h1 h2
   intro x hx;simp at hx
   rcases hx with rfl |rfl
   ·subst h1;rfl
   ·exact expS h2
 split at h
 ·simp only[Bool.and_eq_true,decide_eq_true_eq]at h
  match ks,h with
  |a :: ks,h=>
   have h1:=h.1.2
   have h2:=h.2
   simp only[List.getD_cons_zero,List.drop_succ_cons,List.drop_zero]at h1 h2
   intro x hx
   rcases List.mem_cons.1 hx with rfl |hx
   ·subst h1;rfl
   ·exact allS h2 x hx
 split at h
 ·simp only[Bool.and_eq_true]at h;exact allS h.2
 have:=of_decide_eq_true h
 rw[List.length_eq_zero_iff.1 this]
 intro x hx;cases hx
theorem kd_mem {p:Nat}{k:Int}(hk:k ∈ (nth l p).ks):(nth l k.toNat).kd ∈ (nth l p).ks.map λk=>(nth l k.toNat).kd:=List.mem_map.2 ⟨k,hk,rfl⟩
theorem fl_none (h:RtN l b):∀p:Nat,p<l.length->noS (nth l p).kd=true->∀q,b p<=q->q<=p->stmB (nth l q).kd=false:=by
 intro p
 induction p using Nat.strongRecOn with
 |_ p ih=>
  intro hp hk q h1 h2
  by_cases e:q=p
  ·subst e;exact noS_st hk
  obtain⟨m,e1,e2,e3,e4⟩:=fl_in h hp h1 (by omega)
  have:=kidN hk (fl_kid h hp) _ (kd_mem e1)
  rw[Int.toNat_natCast]at this
  exact ih m e4 (by omega) this q e2 e3
inductive StK (l:List Tr.Nd) (p:Nat):Prop
 |iff_ (a c d:Nat) (h:(nth l p).ks=[(a:Int),(c:Int),(d:Int)]) (hk:(nth l p).kd=11) (ha:noS (nth l a).kd=true) (hc:(nth l c).kd=6) (hd:(nth l d).kd=6)
 |whl (a c:Nat) (h:(nth l p).ks=[(a:Int),(c:Int)]) (hk:(nth l p).kd=12) (ha:noS (nth l a).kd=true) (hc:(nth l c).kd=6)
 |try_ (c d:Nat) (h:(nth l p).ks=[(c:Int),(d:Int)]) (hk:(nth l p).kd=16) (hc:(nth l c).kd=6) (hd:(nth l d).kd=6)
 |oth (h11:(nth l p).kd≠11) (h12:(nth l p).kd≠12) (h16:(nth l p).kd≠16) (h:∀k ∈ (nth l p).ks,noS (nth l k.toNat).kd=true)
theorem fl_stk (h:RtN l b){p:Nat}(hp:p<l.length)(hs:stmB (nth l p).kd=true):StK l p:=by
 have hk:=fl_kid h hp
 have hN:=λk hk=>fl_mem h hp (k:=k) hk
 by_cases h11:(nth l p).kd=11
 ·rw[h11]at hk
  generalize hks:(nth l p).ks=ks at hk hN
  unfold kidB at hk
  simp only[Bool.and_eq_true,decide_eq_true_eq,List.length_map,show¬(11:Int)=1 by decide,show¬(11:Int)=3 by decide,show¬(11:Int)=6 by decide,show¬((11:Int)=7\/(11:Int)=15\/(11:Int)=17\/(11:Int)=23\/(11:Int)=26)by decide,show¬((11:Int)=8\/(11:Int)=27)by decide,show¬(11:Int)=9 by decide,show¬(11:Int)=10 by decide,if_true,if_false]at hk
  match ks,hk,hN with
  | [a,c,d],hk,hN=>
   obtain⟨a',rfl,_⟩:=hN a (by simp)
   obtain⟨c',rfl,_⟩:=hN c (by simp)
   obtain⟨d',rfl,_⟩:=hN d (by simp)
   simp only[List.map_cons,List.map_nil,List.getD_cons_zero,List.getD_cons_succ,Int.toNat_natCast]at hk
   exact .iff_ a' c' d' hks h11 (expS hk.1.1.2) hk.1.2 hk.2
 by_cases h12:(nth l p).kd=12
 ·rw[h12]at hk
  generalize hks:(nth l p).ks=ks at hk hN
  unfold kidB at hk
  simp only[Bool.and_eq_true,decide_eq_true_eq,List.length_map,show¬(12:Int)=1 by decide,show¬(12:Int)=3 by decide,show¬(12:Int)=6 by decide,show¬((12:Int)=7\/(12:Int)=15\/(12:Int)=17\/(12:Int)=23\/(12:Int)=26)by decide,show¬((12:Int)=8\/(12:Int)=27)by decide,show¬(12:Int)=9 by decide,show¬(12:Int)=10 by decide,show¬(12:Int)=11 by decide,if_true,if_false]at hk
  match ks,hk,hN with
  | [a,c],hk,hN=>
   obtain⟨a',rfl,_⟩:=hN a (by simp)
   obtain⟨c',rfl,_⟩:=hN c (by simp)
   simp only[List.map_cons,List.map_nil,List.getD_cons_zero,List.getD_cons_succ,Int.toNat_natCast]at hk
   exact .whl a' c' hks h12 (expS hk.1.2) hk.2
 by_cases h16:(nth l p).kd=16
 ·rw[h16]at hk
  generalize hks:(nth l p).ks=ks at hk hN
  unfold kidB at hk
  simp only[Bool.and_eq_true,decide_eq_true_eq,List.length_map,show¬(16:Int)=1 by decide,show¬(16:Int)=3 by decide,show¬(16:Int)=6 by decide,show¬((16:Int)=7\/(16:Int)=15\/(16:Int)=17\/(16:Int)=23\/(16:Int)=26)by decide,show¬((16:Int)=8\/(16:Int)=27)by decide,show¬(16:Int)=9 by decide,show¬(16:Int)=10 by decide,show¬(16:Int)=11 by decide,show¬(16:Int)=12 by decide,show¬(16:Int)=13 by decide,show¬(16:Int)=14 by decide,if_true,if_false]at hk
  match ks,hk,hN with
  | [c,d],hk,hN=>
   obtain⟨c',rfl,_⟩:=hN c (by simp)
   obtain⟨d',rfl,_⟩:=hN d (by simp)
   simp only[List.map_cons,List.map_nil,List.getD_cons_zero,List.getD_cons_succ,Int.toNat_natCast]at hk
   exact .try_ c' d' hks h16 hk.1.2 hk.2
 exact .oth h11 h12 h16 λk hk2=>kidP hs h11 h12 h16 hk _ (kd_mem hk2)
theorem fl_blk (h:RtN l b){p:Nat}(hp:p<l.length)(h6:(nth l p).kd=6):∀k ∈ (nth l p).ks,∃m:Nat,k=(m:Int)/\m<p/\b p<=b m/\stmB (nth l m).kd=true:=λk hk=>by
 obtain⟨m,rfl,e2,e3,_⟩:=fl_mem h hp hk
 have h1:=fl_kid h hp
 rw[h6]at h1
 have h2:stmB (nth l m).kd=true:=by
  have:=List.all_eq_true.1 (show((nth l p).ks.map λk=>(nth l k.toNat).kd).all Tr.stmB=true from h1) _ (kd_mem hk)
  rw[Int.toNat_natCast]at this
  exact this
 exact⟨m,rfl,e2,e3,h2⟩
def Tg (lo hi:Nat)(k:Int):Prop:=∃j:Nat,k=(j:Int)/\lo<j/\j<hi
def wl (k:Int):Nat:=if k=11\/k=12 then 2 else if k=15 then 0 else 1
structure Bs (R:Nat->Bool) (pr:Int) (q:Nat) (x:Gn):Prop where
 kd:x.kd=4
 pl:x.pl=(q:Int)
 pr:x.pr=pr
 rs:R q=false->x.rs = -1
structure Gd (l:List Tr.Nd) (R:Nat->Bool) (pr:Int) (lo hi:Nat) (q:Nat) (x:Gn):Prop where
 bs:Bs R pr q x
 nx:∀k ∈ x.nx,Tg lo hi k
 len:x.nx.length=wl (nth l q).kd
 up:R q=true->Tg lo hi x.rs
structure Nu (l:List Tr.Nd) (sp:Nat->Int) (a0 z0 lo hi:Nat):Prop where
 num:∀q,a0<=q->q<z0->stmB (nth l q).kd=true->Tg lo hi (sp q)
 inj:∀q q',a0<=q->q<z0->stmB (nth l q).kd=true->a0<=q'->q'<z0->stmB (nth l q').kd=true->sp q=sp q'->q=q'
 len:z0<=l.length
end
section
open Tr (nth)
variable (l:List Tr.Nd) (R:Nat->Bool) (sp:Nat->Int) (pr:Int) (a0 z0 lo hi:Nat)
def Inv (S:Nat->Prop)(G:List Gn):Prop:=∀q,a0<=q->q<z0->stmB (nth l q).kd=true->∃x,G[(sp q).toNat]?=some x/\Bs R pr q x/\(S q->Gd l R pr lo hi q x)
def Oth (G G':List Gn):Prop:=∀i:Nat,(∀q,a0<=q->q<z0->stmB (nth l q).kd=true->i≠(sp q).toNat)->G'[i]?=G[i]?
end
section
open Tr (nth)
variable {l:List Tr.Nd} {b:Nat->Nat} {R:Nat->Bool} {sp:Nat->Int} {pr:Int} {a0 z0 lo hi:Nat}
theorem Oth.trans {G G' G2:List Gn}(h:Oth l sp a0 z0 G G')(k:Oth l sp a0 z0 G' G2):Oth l sp a0 z0 G G2:=λi hi=>(k i hi).trans (h i hi)
theorem Inv.mono {S S':Nat->Prop}{G:List Gn}(h:Inv l R sp pr a0 z0 lo hi S G)(k:∀q,a0<=q->q<z0->stmB (nth l q).kd=true->S' q->S q):Inv l R sp pr a0 z0 lo hi S' G:=λq h1 h2 h3=>by
 obtain⟨x,e1,e2,e3⟩:=h q h1 h2 h3
 exact⟨x,e1,e2,λs=>e3 (k q h1 h2 h3 s)⟩
theorem way_inv (hn:Nu l sp a0 z0 lo hi){S:Nat->Prop}{G:List Gn}(h:Inv l R sp pr a0 z0 lo hi S G){p:Nat}(h1:a0<=p)(h2:p<z0)(h3:stmB (nth l p).kd=true){nx:List Int}{ha:Int}(hx:∀k ∈ nx,Tg lo hi k)(hl:nx.length=wl (nth l p).kd)(hh:Tg lo hi ha) :
  Inv l R sp pr a0 z0 lo hi (λq=>S q\/q=p) (wayG G (sp p).toNat nx (if R p then some ha else none))/\Oth l sp a0 z0 G (wayG G (sp p).toNat nx (if R p then some ha else none)):=by
 obtain⟨x,e1,e2,e3⟩:=h p h1 h2 h3
 have hw:wayG G (sp p).toNat nx (if R p then some ha else none)=G.set (sp p).toNat ⟨x.kd,x.pl,x.pr,nx,(if R p then some ha else none).getD x.rs⟩:=by unfold wayG;rw[e1]
 obtain⟨hlt,_⟩:=List.getElem?_eq_some_iff.1 e1
 rw[hw]
 refine⟨λq k1 k2 k3 =>?_,λi hi =>?_⟩
 ·by_cases hq:q=p
  ·subst hq
   have hb:Bs R pr q ⟨x.kd,x.pl,x.pr,nx,(if R q then some ha else none).getD x.rs⟩:=⟨e2.kd,e2.pl,e2.pr,λhr=>by show(if R q=true then some ha else none).getD x.rs = -1;rw[hr];exact e2.rs hr⟩
   exact⟨_,List.getElem?_set_self hlt,hb,λ_=>⟨hb,hx,hl,λhr=>by show Tg lo hi ((if R q=true then some ha else none).getD x.rs);rw[hr];exact hh⟩⟩
  ·obtain⟨y,f1,f2,f3⟩:=h q k1 k2 k3
   refine⟨y,?_,f2,λs=>f3 (s.resolve_right hq)⟩
   rw[List.getElem?_set_ne]
   ·exact f1
   ·intro e
    obtain⟨i,hi1,_⟩:=hn.num p h1 h2 h3
    obtain⟨j,hj1,_⟩:=hn.num q k1 k2 k3
    rw[hi1,hj1,Int.toNat_natCast,Int.toNat_natCast]at e
    exact hq (hn.inj q p k1 k2 k3 h1 h2 h3 (by rw[hi1,hj1,e]))
 ·rw[List.getElem?_set_ne (λe=>hi p h1 h2 h3 e.symm)]
def GoodR (S:Nat->Prop)(G:List Gn)(lo':Nat)(p:Nat)(r:List Gn × Int):Prop:=Inv l R sp pr a0 z0 lo hi (λq=>S q\/(lo'<=q/\q<=p)) r.1/\Oth l sp a0 z0 G r.1/\Tg lo hi r.2
theorem bk_good {st:List Gn->Nat->Int->List Gn × Int}:∀(ks:List Int) (S:Nat->Prop) (G:List Gn) (fo:Int),
  (∀k ∈ ks,∃m:Nat,k=(m:Int)/\∀S G fo,Inv l R sp pr a0 z0 lo hi S G->Tg lo hi fo->GoodR (l:=l) (R:=R) (sp:=sp) (pr:=pr) (a0:=a0) (z0:=z0) (lo:=lo) (hi:=hi) S G (b m) m (st G m fo)) ->
  Inv l R sp pr a0 z0 lo hi S G->Tg lo hi fo ->
  Inv l R sp pr a0 z0 lo hi (λq=>S q\/∃m:Nat,(m:Int) ∈ ks/\b m<=q/\q<=m) (bkG st ks G fo).1/\Oth l sp a0 z0 G (bkG st ks G fo).1/\Tg lo hi (bkG st ks G fo).2
 | [],S,G,fo,_,h,hf=>by
  refine⟨h.mono λq _ _ _ s =>?_,λ_ _=>rfl,hf⟩
  rcases s with s |⟨m,hm,_⟩
  ·exact s
  ·cases hm
 |k :: ks,S,G,fo,hk,h,hf=>by
  obtain⟨m,rfl,hm⟩:=hk k (by simp)
  obtain⟨a1,a2,a3⟩:=hm S G fo h hf
  obtain⟨c1,c2,c3⟩:=bk_good ks _ _ _ (λk' hk'=>hk k' (by simp[hk'])) a1 a3
  refine⟨?_,?_,?_⟩
  ·show Inv l R sp pr a0 z0 lo hi _ (bkG st ks (st G ((m:Int)).toNat fo).1 (st G ((m:Int)).toNat fo).2).1
   rw[Int.toNat_natCast]
   refine c1.mono λq _ _ _ s =>?_
   rcases s with s |⟨m',hm',h1,h2⟩
   ·exact .inl (.inl s)
   ·rcases List.mem_cons.1 hm' with e |hm'
    ·have e:m'=m:=by omega
     subst e;exact .inl (.inr ⟨h1,h2⟩)
    ·exact .inr ⟨m',hm',h1,h2⟩
  ·show Oth l sp a0 z0 G (bkG st ks (st G ((m:Int)).toNat fo).1 (st G ((m:Int)).toNat fo).2).1
   rw[Int.toNat_natCast]
   exact a2.trans c2
  ·show Tg lo hi (bkG st ks (st G ((m:Int)).toNat fo).1 (st G ((m:Int)).toNat fo).2).2
   rw[Int.toNat_natCast]
   exact c3
def SG (l:List Tr.Nd)(b:Nat->Nat)(R:Nat->Bool)(sp:Nat->Int)(pr:Int)(a0 z0 lo hi:Nat)(ex:Int)(f:Nat):Prop:=∀(p:Nat) (S:Nat->Prop) (G:List Gn) (fo ha:Int),p<f->a0<=b p->p<z0->stmB (nth l p).kd=true->Inv l R sp pr a0 z0 lo hi S G->Tg lo hi fo->Tg lo hi ha->GoodR (l:=l) (R:=R) (sp:=sp) (pr:=pr) (a0:=a0) (z0:=z0) (lo:=lo) (hi:=hi) S G (b p) p (stG l R sp f G p fo ha ex)
def BG (l:List Tr.Nd)(b:Nat->Nat)(R:Nat->Bool)(sp:Nat->Int)(pr:Int)(a0 z0 lo hi:Nat)(ex:Int)(f:Nat):Prop:=∀(p:Nat) (S:Nat->Prop) (G:List Gn) (fo ha:Int),p<=f->a0<=b p->p<z0->(nth l p).kd=6->Inv l R sp pr a0 z0 lo hi S G->Tg lo hi fo->Tg lo hi ha->GoodR (l:=l) (R:=R) (sp:=sp) (pr:=pr) (a0:=a0) (z0:=z0) (lo:=lo) (hi:=hi) S G (b p) p (blG l R sp f G p fo ha ex)
theorem bg_of (h:RtN l b)(hn:Nu l sp a0 z0 lo hi){ex:Int}{f:Nat}(hs:SG l b R sp pr a0 z0 lo hi ex f):BG l b R sp pr a0 z0 lo hi ex f:=λp S G fo ha hpf hap hpz h6 hI hf hh=>by
 have hpl:p<l.length:=Nat.lt_of_lt_of_le hpz hn.len
 have hb:=fl_blk h hpl h6
 obtain⟨c1,c2,c3⟩:=bk_good (b:=b) (st:=λG p fo=>stG l R sp f G p fo ha ex) (nth l p).ks.reverse S G fo (λk hk=>by
  obtain⟨m,e1,e2,e3,e4⟩:=hb k (List.mem_reverse.1 hk)
  exact⟨m,e1,λS G fo hI hf=>hs m S G fo ha (by omega) (by omega) (by omega) e4 hI hf hh⟩) hI hf
 refine⟨c1.mono λq k1 k2 k3 s =>?_,c2,c3⟩
 rcases s with s |⟨s1,s2⟩
 ·exact .inl s
 ·have:q≠p:=λe=>by rw[e,h6]at k3;exact absurd k3 (by decide)
  obtain⟨m,e1,e2,e3,_⟩:=fl_in h hpl s1 (by omega)
  exact .inr ⟨m,List.mem_reverse.2 e1,e2,e3⟩
theorem sg_of (h:RtN l b)(hn:Nu l sp a0 z0 lo hi){ex:Int}(hex:Tg lo hi ex){f:Nat}(hb:BG l b R sp pr a0 z0 lo hi ex f):SG l b R sp pr a0 z0 lo hi ex (f+1):=λp S G fo ha hpf hap hpz hst hI hf hh=>by
 have hpl:p<l.length:=Nat.lt_of_lt_of_le hpz hn.len
 have hbp:=h.st.le p hpl
 have hself:=hn.num p (by omega) hpz hst
 have hrest:∀q,b p<=q->q<=p->stmB (nth l q).kd=true->q=p\/∃m:Nat,(m:Int) ∈ (nth l p).ks/\b m<=q/\q<=m/\noS (nth l m).kd=false:=λq h1 h2 h3=>by
  by_cases e:q=p
  ·exact .inl e
  obtain⟨m,e1,e2,e3,e4⟩:=fl_in h hpl h1 (by omega)
  refine .inr ⟨m,e1,e2,e3,?_⟩
  cases hno:noS (nth l m).kd with
  |false=>rfl
  |true=>exact absurd (fl_none h m (by omega) hno q e2 e3) (by rw[h3];decide)
 obtain⟨bl,hbl⟩:∃bl:List Gn->Int->Int->Int->List Gn × Int,(λG k fo ha=>bkG (λG p fo=>stG l R sp f G p fo ha ex) (nth l k.toNat).ks.reverse G fo)=bl:=⟨_,rfl⟩
 have hB:∀(c:Nat) (S:Nat->Prop) (G:List Gn) (fo ha:Int),(c:Int) ∈ (nth l p).ks->(nth l c).kd=6->Inv l R sp pr a0 z0 lo hi S G->Tg lo hi fo->Tg lo hi ha->GoodR (l:=l) (R:=R) (sp:=sp) (pr:=pr) (a0:=a0) (z0:=z0) (lo:=lo) (hi:=hi) S G (b c) c (bl G (c:Int) fo ha):=λc S G fo ha hc h6 hI hf hh=>by
  obtain⟨m,e1,e2,e3,_⟩:=fl_mem h hpl hc
  obtain rfl:c=m:=by omega
  rw[<- hbl]
  have:=hb c S G fo ha (by omega) (by omega) (by omega) h6 hI hf hh
  unfold blG at this
  dsimp only
  rw[Int.toNat_natCast]
  exact this
 unfold stG
 rw[hbl]
 rcases fl_stk h hpl hst with⟨a,c,d,hks,hk,ha',hc,hd⟩ |⟨a,c,hks,hk,ha',hc⟩ |⟨c,d,hks,hk,hc,hd⟩ |⟨h11,h12,h16,hks⟩
 ·obtain⟨a1,a2,a3⟩:=hB c S G fo ha (by rw[hks];simp) hc hI hf hh
  obtain⟨b1,b2,b3⟩:=hB d _ _ fo ha (by rw[hks];simp) hd a1 hf hh
  have hS:swG bl (nth l p) (sp p) G fo ha ex=((bl (bl G (c:Int) fo ha).1 (d:Int) fo ha).1,sp p,[(bl G (c:Int) fo ha).2,(bl (bl G (c:Int) fo ha).1 (d:Int) fo ha).2]):=by
   unfold swG;rw[if_pos hk,hks];rfl
  rw[hS]
  obtain⟨w1,w2⟩:=way_inv hn b1 (p:=p) (by omega) hpz hst (nx:=[(bl G (c:Int) fo ha).2,(bl (bl G (c:Int) fo ha).1 (d:Int) fo ha).2]) (ha:=ha) (λk hk=>by simp at hk;rcases hk with rfl |rfl<;>first|exact a3 |exact b3) (by rw[hk];rfl) hh
  refine⟨w1.mono λq k1 k2 k3 s =>?_,(a2.trans b2).trans w2,hself⟩
  rcases s with s |⟨s1,s2⟩
  ·exact .inl (.inl (.inl s))
  rcases hrest q s1 s2 k3 with e |⟨m,e1,e2,e3,e4⟩
  ·exact .inr e
  rw[hks]at e1
  simp at e1
  rcases e1 with e1 |e1 |e1
  ·obtain rfl:m=a:=by omega
   rw[ha']at e4;cases e4
  ·obtain rfl:m=c:=by omega
   exact .inl (.inl (.inr ⟨e2,e3⟩))
  ·obtain rfl:m=d:=by omega
   exact .inl (.inr ⟨e2,e3⟩)
 ·obtain⟨a1,a2,a3⟩:=hB c S G (sp p) ha (by rw[hks];simp) hc hI hself hh
  have hS:swG bl (nth l p) (sp p) G fo ha ex=((bl G (c:Int) (sp p) ha).1,sp p,[(bl G (c:Int) (sp p) ha).2,fo]):=by
   unfold swG;rw[if_neg (by rw[hk];decide),if_pos hk,hks];rfl
  rw[hS]
  obtain⟨w1,w2⟩:=way_inv hn a1 (p:=p) (by omega) hpz hst (nx:=[(bl G (c:Int) (sp p) ha).2,fo]) (ha:=ha) (λk hk=>by simp at hk;rcases hk with rfl |rfl<;>first|exact a3 |exact hf) (by rw[hk];rfl) hh
  refine⟨w1.mono λq k1 k2 k3 s =>?_,a2.trans w2,hself⟩
  rcases s with s |⟨s1,s2⟩
  ·exact .inl (.inl s)
  rcases hrest q s1 s2 k3 with e |⟨m,e1,e2,e3,e4⟩
  ·exact .inr e
  rw[hks]at e1
  simp at e1
  rcases e1 with e1 |e1
  ·obtain rfl:m=a:=by omega
   rw[ha']at e4;cases e4
  ·obtain rfl:m=c:=by omega
   exact .inl (.inr ⟨e2,e3⟩)
 ·obtain⟨a1,a2,a3⟩:=hB c S G fo (sp p) (by rw[hks];simp) hc hI hf hself
  obtain⟨b1,b2,b3⟩:=hB d _ _ fo ha (by rw[hks];simp) hd a1 hf hh
  have hS:swG bl (nth l p) (sp p) G fo ha ex=((bl (bl G (c:Int) fo (sp p)).1 (d:Int) fo ha).1,(bl G (c:Int) fo (sp p)).2,[(bl (bl G (c:Int) fo (sp p)).1 (d:Int) fo ha).2]):=by
   unfold swG;rw[if_neg (by rw[hk];decide),if_neg (by rw[hk];decide),if_pos hk,hks];rfl
  rw[hS]
  obtain⟨w1,w2⟩:=way_inv hn b1 (p:=p) (by omega) hpz hst (nx:=[(bl (bl G (c:Int) fo (sp p)).1 (d:Int) fo ha).2]) (ha:=ha) (λk hk=>by simp at hk;rw[hk];exact b3) (by rw[hk];rfl) hh
  refine⟨w1.mono λq k1 k2 k3 s =>?_,(a2.trans b2).trans w2,a3⟩
  rcases s with s |⟨s1,s2⟩
  ·exact .inl (.inl (.inl s))
  rcases hrest q s1 s2 k3 with e |⟨m,e1,e2,e3,e4⟩
  ·exact .inr e
  rw[hks]at e1
  simp at e1
  rcases e1 with e1 |e1
  ·obtain rfl:m=c:=by omega
   exact .inl (.inl (.inr ⟨e2,e3⟩))
  ·obtain rfl:m=d:=by omega
   exact .inl (.inr ⟨e2,e3⟩)
 ·have hS:∃nx,swG bl (nth l p) (sp p) G fo ha ex=(G,sp p,nx)/\(∀k ∈ nx,Tg lo hi k)/\nx.length=wl (nth l p).kd:=by
   unfold swG wl
   rw[if_neg h11,if_neg h12,if_neg h16]
   by_cases h14:(nth l p).kd=14
   ·exact⟨[ex],by rw[if_pos h14],by simpa using hex,by rw[h14];rfl⟩
   by_cases h15:(nth l p).kd=15
   ·exact⟨[],by rw[if_neg h14,if_pos h15],by simp,by rw[h15];rfl⟩
   exact⟨[fo],by rw[if_neg h14,if_neg h15],by simpa using hf,by rw[if_neg (by omega),if_neg h15];rfl⟩
  obtain⟨nx,hS,hx,hl⟩:=hS
  rw[hS]
  obtain⟨w1,w2⟩:=way_inv hn hI (p:=p) (by omega) hpz hst (nx:=nx) (ha:=ha) hx hl hh
  refine⟨w1.mono λq k1 k2 k3 s =>?_,w2,hself⟩
  rcases s with s |⟨s1,s2⟩
  ·exact .inl s
  rcases hrest q s1 s2 k3 with e |⟨m,e1,e2,e3,e4⟩
  ·exact .inr e
  have:=hks _ e1
  rw[Int.toNat_natCast,e4]at this
  cases this
theorem sbg_of (h:RtN l b)(hn:Nu l sp a0 z0 lo hi){ex:Int}(hex:Tg lo hi ex):∀f,SG l b R sp pr a0 z0 lo hi ex f/\BG l b R sp pr a0 z0 lo hi ex f
 |0=>by
  have h0:SG l b R sp pr a0 z0 lo hi ex 0:=λp S G fo ha hpf=>absurd hpf (Nat.not_lt_zero _)
  exact⟨h0,bg_of h hn h0⟩
 |f+1=>by
  have h1:=sg_of h hn hex (sbg_of h hn hex f).2
  exact⟨h1,bg_of h hn h1⟩
end
end Go.Proofs.YtedkgofehbecmaaGreatDoor
