/- PROVED here: parts Ej of the claim. No condition but those in each theorem's own head. -/
import Derived.Test.YtignojhijmamhaaGreatJ49
namespace Go.Proofs.YtignojhijmamhaaGreat
open Go Go.RowKit Go.Sort
open Va (ap hpu h_one Bx heap1 bt VP VI V2 V3 BP str_eq str_ne below2 Hp C46 C49 Two Acts AV DoesP actH F2 append_wp own_below)
open Ty (TT tpT pcT chkT OkT7 SmPost7 Caps)
open Ty.Tr (Nd Nds rgB VPost)
theorem acts_at {w:World}{A:Option Addr}{l:List AV}(h:Acts w A l){k:Nat}(hk:k<l.length):∃b off,A=some ⟨b,off,none⟩∧b<w.heap.size∧w.cell? ⟨b,off+k*8,none⟩=some (.int .i64 l[k].op)∧w.cell? ⟨b,off+k*8+1,none⟩=some (.int .i64 l[k].n)∧w.cell? ⟨b,off+k*8+2,none⟩=some (.int .i64 l[k].ak)∧w.cell? ⟨b,off+k*8+3,none⟩=some (.int .i64 l[k].an) ∧
  w.cell? ⟨b,off+k*8+4,none⟩=some (.int .i64 l[k].ik)∧w.cell? ⟨b,off+k*8+5,none⟩=some (.int .i64 l[k].iN)∧w.cell? ⟨b,off+k*8+6,none⟩=some (.int .i64 l[k].vk)∧w.cell? ⟨b,off+k*8+7,none⟩=some (.int .i64 l[k].vn):=by
 obtain⟨b,off,e,hb,hc⟩:=h (by omega)
 exact⟨b,off,e,hb,hc k hk 0 (by decide),hc k hk 1 (by decide),hc k hk 2 (by decide),hc k hk 3 (by decide),hc k hk 4 (by decide),hc k hk 5 (by decide),hc k hk 6 (by decide),hc k hk 7 (by decide)⟩
def flN:List NV→List Value
 | []=>[]
 |x :: r =>.string x.tx :: .int .i64 x.k :: .int .i64 x.n :: flN r
theorem flN_app:∀a b:List NV,flN (a++b)=flN a++flN b
 | [],_=>rfl
 |x :: r,b=>by simp only[flN,List.cons_append,flN_app r b]
theorem flN_get:∀(ns:List NV) (j:Nat) (hj:j<ns.length),(flN ns)[j*3]?=some (.string ns[j].tx)∧(flN ns)[j*3+1]?=some (.int .i64 ns[j].k)∧(flN ns)[j*3+2]?=some (.int .i64 ns[j].n)
 |x :: r,0,_=>⟨rfl,rfl,rfl⟩
 |x :: r,j+1,hj=>by
  have h:=flN_get r j (by simpa using hj)
  have e0:(j+1)*3=j*3+1+1+1:=by omega
  have e1:(j+1)*3+1=j*3+1+1+1+1:=by omega
  have e2:(j+1)*3+2=j*3+2+1+1+1:=by omega
  rw[e1,e2,e0]
  simp only[flN,List.getElem?_cons_succ,List.getElem_cons_succ]
  exact h
theorem nms_own {w:World}{base:Nat}{v:Value}{ns:List NV}(h:w.ownsRow base 52 3 v ns.length (flN ns)):∃A c,v = .slice A ns.length c∧Nms w A ns:=by
 rcases h.2 with⟨e1,e2⟩ |⟨g,c,cur,e,hb,hg,_,_,hs,ht⟩
 ·exact⟨none,0,by rw[e1,e2],fun h0=>by omega⟩
 ·refine⟨some ⟨g,0,none⟩,c,e,fun _=>⟨g,0,rfl,(Array.getElem?_eq_some_iff.1 hg).1,fun j hj =>?_⟩⟩
  have HB:Bx w g 52 cur.toList:=by unfold Bx;rw[Array.toArray_toList];exact hg
  have hh:=flN_get ns j hj
  have at_:∀q,q<ns.length*3→w.cell? ⟨g,q,none⟩=(flN ns)[q]?:=fun q hq=>by
   rw[HB.cell q,← ht,List.getElem?_take,if_pos hq]
  refine⟨?_,?_,?_⟩
  ·rw[Nat.zero_add,at_ _ (by omega)];exact hh.1
  ·rw[Nat.zero_add,at_ _ (by omega)];exact hh.2.1
  ·rw[Nat.zero_add,at_ _ (by omega)];exact hh.2.2
theorem own_slice3 {w:World}{base n:Nat}{v:Value}{xs:List Value}(h:w.ownsRow base 52 3 v n xs):∃A c,v = .slice A n c:=by
 rcases h.2 with⟨e1,e2⟩ |⟨g,cap,cur,e1,_⟩
 ·exact⟨none,0,by rw[e1,e2]⟩
 ·exact⟨_,_,e1⟩
theorem info52:(Tryz.prog.info? 52).map (fun i=>(i.zero,i.size,i.bytes))=some (some (.agg #[.string ⟨#[]⟩,.int .i64 0,.int .i64 0]),3,32):=by kernel_rfl
theorem three_one (s:ByteArray)(a b:Int):∀u ∈ [Value.string s,.int .i64 a,.int .i64 b],u.oneCell'=true:=by intro u hu;simp at hu;rcases hu with rfl |rfl |rfl<;>rfl
theorem own7:Own 7:=⟨_,Tryz.func7,by kernel_rfl,by kernel_rfl⟩
theorem wrap64_pred (i:Nat)(h:i≤4000):wrap64 ((i:Int)-1+1)=((i+1:Nat):Int)-1:=by rw[show((i:Int)-1+1)=(i:Int)by omega,show((i+1:Nat):Int)-1=(i:Int)by omega];unfold wrap64;omega
set_option maxRecDepth 100000 in
set_option maxHeartbeats 8000000 in
theorem valueEvals_w (A:Option Addr)(c n:Nat)(l:List Nd)(r:Int)(NA:Option Addr)(nc:Nat)(ns:List NV)(AA:Option Addr)(ac:Nat)(al:List AV)(w:World)(hn:n=l.length)(hN:Nds w A l)(hnum:∀x ∈ l,x.n≤9223372036854775807)(hc:Caps w A l)(hM:Nms w NA ns)(hA:Acts w AA al):Calls Tryz.prog 3 #[.agg #[.slice A n c,.int .i64 r],.slice NA ns.length nc,.slice AA al.length ac] w (VPost (.bool true) w):=by
 have hb0:=heap1 w (.cells #[.slice A n c,.int .i64 r] 24)
 have HX:=Lib.hid (Bx.new w 24 [.slice A n c,.int .i64 r])
 have HB0:=Lib.hid hb0
 have HSM:=Lib.hid (show∀w',Below w.heap.size w w'→Calls Tryz.prog 5 #[.agg #[.slice A n c,.int .i64 r]] w' (SmPost7 l w')from fun w' q=>Ty.small35t_any A n c l r w' (hN.below q) hn)
 have HTT:=Lib.hid (show OkT7 l→∀w',Below w.heap.size w w'→TT w' A n l from fun h w' q=>(TT.mk hN hn (fun x hx=>by have:=(h.2 x hx).1;omega) (fun x hx=>by have:=(h.2 x hx).2;omega) hnum hc).below q)
 have HMM:=Lib.hid hM
 have HAA:=Lib.hid hA
 have HLN:=Lib.hid hn
 obtain⟨m,hm⟩:∃m,ns.length=m:=⟨_,rfl⟩
 obtain⟨na,hna⟩:∃na,al.length=na:=⟨_,rfl⟩
 rw[hm,hna]
 have HM:=Lib.hid hm
 have HNA:=Lib.hid hna
 clear hN hnum hc hb0 hn hM hA hm hna
 obtain⟨W0,hW0⟩:∃W0,w.alloc (.cells #[.slice A n c,.int .i64 r] 24)=W0:=⟨_,rfl⟩
 rw[hW0]at HX HB0
 have HS:=Lib.hid (Va.shown_any W0)
 go_enter Tryz.func3,Tryz.ntmps3
 go_wp2_with (go_at_call 4;refine HS.out.mono ?_)
 rintro e w1 ⟨rfl,hb1⟩
 have HX1:=Lib.hid (HX.out.below hb1 HX.out.lt)
 have HB1:=Lib.hid (bt HB0.out hb1)
 have a0:=(HX1.out.cell 0).trans rfl
 have a1:=(HX1.out.cell 1).trans rfl
 clear hb1 hW0 HS HX HB0
 go_wp2_with (go_at_call 5;refine(HSM.out _ HB1.out).mono ?_)
 rintro e w2 ⟨hb2,bo,rfl,hok⟩
 have HB2:=Lib.hid (bt HB1.out hb2)
 cases bo with
 |false=>
  clear hb2 hok a0 a1
  go_wp2
  go_ret
  exact⟨rfl,HB2.out⟩
 |true=>
  have HOK:=Lib.hid (hok rfl)
  have HX2:=Lib.hid (HX1.out.below hb2 HX1.out.lt)
  clear hb2 hok a0 a1 HX1
  by_cases h30:30<(m:Int)
  ·have hd1:decide (30<(m:Int))=true:=decide_eq_true h30
   go_wp2
   go_ret
   exact⟨rfl,HB2.out⟩
  have hd1:decide (30<(m:Int))=false:=decide_eq_false h30
  by_cases h20:20<(na:Int)
  ·have hd2:decide (20<(na:Int))=true:=decide_eq_true h20
   go_wp2
   go_ret
   exact⟨rfl,HB2.out⟩
  have hd2:decide (20<(na:Int))=false:=decide_eq_false h20
  have hT:Two ((w2.alloc (.cells #[.slice none 0 0,.int .i64 0] 37)).alloc (.cells #[.slice none 0 0] 40)) w2.heap.size w2.heap.size (.slice none 0 0) [] [] (w2.heap.size+1) (.slice none 0 0) [] []:=by
   have h1:=(Hp.new46 w2 w2.heap.size (Nat.le_refl _)).below (heap1 _ (.cells #[.slice none 0 0] 40))
   have h2:=Hp.new49 (w2.alloc (.cells #[.slice none 0 0,.int .i64 0] 37)) w2.heap.size (by simp)
   rw[World.size_alloc]at h2
   refine⟨h1,h2,fun b hb q =>?_⟩
   rcases hb with rfl |hb |⟨x,hx,_⟩
   ·rcases q with q |q |⟨x,hx,_⟩
    ·omega
    ·cases q
    ·cases hx
   ·cases hb
   ·cases hx
  have hb3:Below w2.heap.size w2 ((w2.alloc (.cells #[.slice none 0 0,.int .i64 0] 37)).alloc (.cells #[.slice none 0 0] 40)):=(heap1 _ _).alloc (by simp) _
  have HT:=Lib.hid hT
  have HB3:=Lib.hid hb3
  have HA2:=Lib.hid (HAA.out.below HB2.out)
  have HSM2:=Lib.hid (And.intro h30 h20)
  have hln:(na:Int)≤20:=by omega
  have hmn:(m:Int)≤30:=by omega
  clear hT hb3 h30 h20
  go_wp2
  clear hd1 hd2
  go_loopw [11] (fun i wr=>∃(k:Nat) (v1:Value) (vs1:List Value) (v2:Value) (vs2:List Value) (L:List (List Int)),k≤na∧i = .int .i64 (k:Int)∧Two wr w2.heap.size w2.heap.size v1 vs1 L (w2.heap.size+1) v2 vs2 L∧Below w2.heap.size w2 wr) (fun i _=>na-(intOf i).toNat)
  case atStart=>exact⟨0,_,_,_,_,_,Nat.zero_le _,rfl,HT.out,HB3.out⟩
  case round=>
   obtain⟨k,v1,vs1,v2,vs2,L,hk,rfl,hT,hb⟩:=hrel
   obtain⟨W1,rfl⟩:∃W1,W1=wr:=⟨_,rfl⟩
   by_cases hlt:k<na
   ·have hkz:(k:Int)<(na:Int):=by omega
    have hkl:k<al.length:=by rw[HNA.out];exact hlt
    obtain⟨b,off,rfl,hbl,x0,x1,x2,x3,x4,x5,x6,x7⟩:=acts_at (HA2.out.below hb) hkl
    obtain⟨a,ha⟩:∃a,al[k]=a:=⟨_,rfl⟩
    rw[ha]at x0 x1 x2 x3 x4 x5 x6 x7
    have HD:=Lib.hid (Va.does_any hT a)
    have HB4:=Lib.hid (And.intro hT hb)
    have HK:=Lib.hid hlt
    clear hT hb ha hk
    go_wp2_with (go_at_call 6;refine HD.out.mono ?_)
    rintro e w3 ⟨bo,v1',vs1',v2',vs2',rfl,hbo,hT2,hF⟩
    have hb5:Below w2.heap.size w2 w3:=HB4.out.2.trans (hF.to_below HB4.out.2.size (fun x hx=>hx.elim (fun q=>HB4.out.1.h1.foot q) (fun q=>HB4.out.1.h2.foot q)))
    generalize actH L a=M at *
    have HE:=Lib.hid (And.intro hT2 hb5)
    clear hT2 hb5 hF hbo x0 x1 x2 x3 x4 x5 x6 x7
    go_wp2
    go_roundw
    case rel=>exact⟨k+1,_,_,_,_,_,by have:=HK.out;omega,by go_num,HE.out.1,HE.out.2⟩
    case measure=>have:=HK.out;simp[intOf];omega
   ·obtain rfl:k=na:=by omega
    have hkz:¬(k:Int)<(k:Int):=by omega
    have HT1:=Lib.hid hT
    have HBA:=Lib.hid (bt HB2.out hb)
    have HX3:=Lib.hid (HX2.out.below hb HX2.out.lt)
    clear hT hb hk
    have HMW:=Lib.hid (HMM.out.below HBA.out)
    go_wp2
    clear hkz
    go_loopw [12,13] (fun v12 v13 wr=>∃(u:Value) (k:Nat),v12=u∧k≤m∧v13 = .int .i64 (k:Int)∧Below W1.heap.size W1 wr∧wr.ownsRow W1.heap.size 52 3 u k (flN (ns.take k))) (fun _ v13 _=>m-(intOf v13).toNat)
    case atStart=>exact⟨_,0,rfl,Nat.zero_le _,rfl,Below.refl _ _,World.ownsRow_nil _ _ _ _⟩
    case round=>
     obtain⟨u12,k2,rfl,hk2,rfl,hb,hown⟩:=hrel
     obtain⟨W2,rfl⟩:∃W2,W2=wr:=⟨_,rfl⟩
     by_cases hlt:k2<m
     ·have hkz:(k2:Int)<(m:Int):=by omega
      have hkl:k2<ns.length:=by rw[HM.out];exact hlt
      obtain⟨bN,oN,rfl,hbl,hcN⟩:=HMW.out (by omega)
      obtain⟨x0',x1',x2'⟩:=hcN k2 hkl
      have htk:ns.take (k2+1)=ns.take k2++[ns[k2]]:=List.take_succ_eq_append_getElem hkl
      generalize ns[k2]=q at *
      obtain⟨tx,qk,qn⟩:=q
      dsimp only at x0' x1' x2' htk
      have HC0:=Lib.hid (And.intro hbl (And.intro x0' (And.intro x1' x2')))
      have HTK:=Lib.hid htk
      have HK2:=Lib.hid hlt
      have x0:=(hb.cell (p:=⟨bN,oN+k2*3,none⟩) hbl).trans x0'
      clear hbl hcN x0' x1' x2' htk
      by_cases hs:100<(tx.size:Int)
      ·have HZ:=Lib.hid (bt HBA.out hb)
       clear hown hb hk2
       go_wp2
       go_ret
       exact⟨rfl,HZ.out⟩
      ·have HOW:=Lib.hid (And.intro hb hown)
       obtain⟨A12,c12,e12⟩:=own_slice3 hown
       subst e12
       clear hown hb hk2
       go_upto_region 17 with(fail)
       clear x0
       obtain⟨i0,hi0⟩:∃i0,Tryz.prog.info? 52=some i0:=by
        have h:=info52
        cases hq:Tryz.prog.info? 52 with
        |none=>rw[hq]at h;cases h
        |some i0=>exact⟨i0,rfl⟩
       have hz:=info52
       rw[hi0]at hz
       simp only[Option.map_some,Option.some.injEq,Prod.mk.injEq]at hz
       obtain⟨hz0,hz1,hz2⟩:=hz
       refine wp_region_held (S:=Below W1.heap.size W1) (by kernel_rfl) ?_
       have hS:Below W1.heap.size W1 ({ W2 with drawn:=W2.drawn+1 }:World):=HOW.out.1.drew
       have hq:Below W2.heap.size W2 ({ W2 with drawn:=W2.drawn+1 }:World):=(Below.refl _ _).drew
       generalize ({ W2 with drawn:=W2.drawn+1 }:World)=V0 at *
       refine hpu 0 (o:=({ dst:=some 69,op:=Op.move (Operand.tmp 12),type:=46,pos := "law.go:139",after := #[],guard:=none }:Oper)) (.slice A12 k2 c12) (by kernel_rfl) rfl rfl (fun _ _ _ h=>h) rfl (by intro w' hSw;have e0:=(hSw.cell (p:=⟨bN,oN+k2*3,none⟩) HC0.out.1).trans HC0.out.2.1;have e1:=(hSw.cell (p:=⟨bN,oN+k2*3+1,none⟩) HC0.out.1).trans HC0.out.2.2.1;have e2:=(hSw.cell (p:=⟨bN,oN+k2*3+2,none⟩) HC0.out.1).trans HC0.out.2.2.2;clear hSw;go_simp) hS ?_
       try simp only[ap]
       refine hpu 1 (o:=({ dst:=some 70,op:=Op.move (Operand.tmp 1),type:=25,pos := "law.go:139",after := #[],guard:=none }:Oper)) (.slice (some ⟨bN,oN,none⟩) m nc) (by kernel_rfl) rfl rfl (fun _ _ _ h=>h) rfl (by intro w' hSw;have e0:=(hSw.cell (p:=⟨bN,oN+k2*3,none⟩) HC0.out.1).trans HC0.out.2.1;have e1:=(hSw.cell (p:=⟨bN,oN+k2*3+1,none⟩) HC0.out.1).trans HC0.out.2.2.1;have e2:=(hSw.cell (p:=⟨bN,oN+k2*3+2,none⟩) HC0.out.1).trans HC0.out.2.2.2;clear hSw;go_simp) hS ?_
       try simp only[ap]
       refine hpu 2 (o:=({ dst:=some 71,op:=Op.move (Operand.tmp 13),type:=3,pos := "law.go:139",after := #[],guard:=none }:Oper)) (.int .i64 (k2:Int)) (by kernel_rfl) rfl rfl (fun _ _ _ h=>h) rfl (by intro w' hSw;have e0:=(hSw.cell (p:=⟨bN,oN+k2*3,none⟩) HC0.out.1).trans HC0.out.2.1;have e1:=(hSw.cell (p:=⟨bN,oN+k2*3+1,none⟩) HC0.out.1).trans HC0.out.2.2.1;have e2:=(hSw.cell (p:=⟨bN,oN+k2*3+2,none⟩) HC0.out.1).trans HC0.out.2.2.2;clear hSw;go_simp) hS ?_
       try simp only[ap]
       refine hpu 3 (o:=({ dst:=some 72,op:=Op.indexAddr 25 (Operand.tmp 70) (Operand.tmp 71),type:=0,pos := "law.go:139",after := #[{ on:=1,ground:=Ground.data },{ on:=2,ground:=Ground.data }],guard:=none }:Oper)) (.pointer (some ⟨bN,oN+k2*3,none⟩)) (by kernel_rfl) rfl rfl (fun _ _ _ h=>h) rfl (by intro w' hSw;have e0:=(hSw.cell (p:=⟨bN,oN+k2*3,none⟩) HC0.out.1).trans HC0.out.2.1;have e1:=(hSw.cell (p:=⟨bN,oN+k2*3+1,none⟩) HC0.out.1).trans HC0.out.2.2.1;have e2:=(hSw.cell (p:=⟨bN,oN+k2*3+2,none⟩) HC0.out.1).trans HC0.out.2.2.2;clear hSw;go_simp) hS ?_
       try simp only[ap]
       refine hpu 4 (o:=({ dst:=some 73,op:=Op.fieldAddr 48 (Operand.tmp 72) 0,type:=0,pos := "law.go:139",after := #[{ on:=3,ground:=Ground.data }],guard:=none }:Oper)) (.pointer (some ⟨bN,oN+k2*3,none⟩)) (by kernel_rfl) rfl rfl (fun _ _ _ h=>h) rfl (by intro w' hSw;have e0:=(hSw.cell (p:=⟨bN,oN+k2*3,none⟩) HC0.out.1).trans HC0.out.2.1;have e1:=(hSw.cell (p:=⟨bN,oN+k2*3+1,none⟩) HC0.out.1).trans HC0.out.2.2.1;have e2:=(hSw.cell (p:=⟨bN,oN+k2*3+2,none⟩) HC0.out.1).trans HC0.out.2.2.2;clear hSw;go_simp) hS ?_
       try simp only[ap]
       refine hpu 5 (o:=({ dst:=some 74,op:=Op.load 9 (Operand.tmp 73),type:=9,pos := "law.go:139",after := #[{ on:=4,ground:=Ground.data }],guard:=none }:Oper)) (.string tx) (by kernel_rfl) rfl rfl (fun _ _ _ h=>h) rfl (by intro w' hSw;have e0:=(hSw.cell (p:=⟨bN,oN+k2*3,none⟩) HC0.out.1).trans HC0.out.2.1;have e1:=(hSw.cell (p:=⟨bN,oN+k2*3+1,none⟩) HC0.out.1).trans HC0.out.2.2.1;have e2:=(hSw.cell (p:=⟨bN,oN+k2*3+2,none⟩) HC0.out.1).trans HC0.out.2.2.2;clear hSw;go_simp) hS ?_
       try simp only[ap]
       refine hpu 6 (o:=({ dst:=some 75,op:=Op.move (Operand.tmp 1),type:=25,pos := "law.go:139",after := #[],guard:=none }:Oper)) (.slice (some ⟨bN,oN,none⟩) m nc) (by kernel_rfl) rfl rfl (fun _ _ _ h=>h) rfl (by intro w' hSw;have e0:=(hSw.cell (p:=⟨bN,oN+k2*3,none⟩) HC0.out.1).trans HC0.out.2.1;have e1:=(hSw.cell (p:=⟨bN,oN+k2*3+1,none⟩) HC0.out.1).trans HC0.out.2.2.1;have e2:=(hSw.cell (p:=⟨bN,oN+k2*3+2,none⟩) HC0.out.1).trans HC0.out.2.2.2;clear hSw;go_simp) hS ?_
       try simp only[ap]
       refine hpu 7 (o:=({ dst:=some 76,op:=Op.move (Operand.tmp 13),type:=3,pos := "law.go:139",after := #[],guard:=none }:Oper)) (.int .i64 (k2:Int)) (by kernel_rfl) rfl rfl (fun _ _ _ h=>h) rfl (by intro w' hSw;have e0:=(hSw.cell (p:=⟨bN,oN+k2*3,none⟩) HC0.out.1).trans HC0.out.2.1;have e1:=(hSw.cell (p:=⟨bN,oN+k2*3+1,none⟩) HC0.out.1).trans HC0.out.2.2.1;have e2:=(hSw.cell (p:=⟨bN,oN+k2*3+2,none⟩) HC0.out.1).trans HC0.out.2.2.2;clear hSw;go_simp) hS ?_
       try simp only[ap]
       refine hpu 8 (o:=({ dst:=some 77,op:=Op.indexAddr 25 (Operand.tmp 75) (Operand.tmp 76),type:=0,pos := "law.go:139",after := #[{ on:=6,ground:=Ground.data },{ on:=7,ground:=Ground.data }],guard:=none }:Oper)) (.pointer (some ⟨bN,oN+k2*3,none⟩)) (by kernel_rfl) rfl rfl (fun _ _ _ h=>h) rfl (by intro w' hSw;have e0:=(hSw.cell (p:=⟨bN,oN+k2*3,none⟩) HC0.out.1).trans HC0.out.2.1;have e1:=(hSw.cell (p:=⟨bN,oN+k2*3+1,none⟩) HC0.out.1).trans HC0.out.2.2.1;have e2:=(hSw.cell (p:=⟨bN,oN+k2*3+2,none⟩) HC0.out.1).trans HC0.out.2.2.2;clear hSw;go_simp) hS ?_
       try simp only[ap]
       refine hpu 9 (o:=({ dst:=some 78,op:=Op.fieldAddr 48 (Operand.tmp 77) 1,type:=0,pos := "law.go:139",after := #[{ on:=8,ground:=Ground.data }],guard:=none }:Oper)) (.pointer (some ⟨bN,oN+k2*3+1,none⟩)) (by kernel_rfl) rfl rfl (fun _ _ _ h=>h) rfl (by intro w' hSw;have e0:=(hSw.cell (p:=⟨bN,oN+k2*3,none⟩) HC0.out.1).trans HC0.out.2.1;have e1:=(hSw.cell (p:=⟨bN,oN+k2*3+1,none⟩) HC0.out.1).trans HC0.out.2.2.1;have e2:=(hSw.cell (p:=⟨bN,oN+k2*3+2,none⟩) HC0.out.1).trans HC0.out.2.2.2;clear hSw;go_simp) hS ?_
       try simp only[ap]
       refine hpu 10 (o:=({ dst:=some 79,op:=Op.load 43 (Operand.tmp 78),type:=43,pos := "law.go:139",after := #[{ on:=9,ground:=Ground.data }],guard:=none }:Oper)) (.agg #[.int .i64 qk,.int .i64 qn]) (by kernel_rfl) rfl rfl (fun _ _ _ h=>h) rfl (by intro w' hSw;have e0:=(hSw.cell (p:=⟨bN,oN+k2*3,none⟩) HC0.out.1).trans HC0.out.2.1;have e1:=(hSw.cell (p:=⟨bN,oN+k2*3+1,none⟩) HC0.out.1).trans HC0.out.2.2.1;have e2:=(hSw.cell (p:=⟨bN,oN+k2*3+2,none⟩) HC0.out.1).trans HC0.out.2.2.2;clear hSw;go_simp) hS ?_
       try simp only[ap]
       refine h_call 11 ({ dst:=some 80,op:=Op.call { callee:=Callee.value (Operand.func 7),args := #[Operand.tmp 79],argTypes := #[43] },type:=49,pos := "law.go:139",after := #[{ on:=10,ground:=Ground.data }],guard:=none }:Oper) (fun v w1=>v = .agg #[.int .i64 qk,.int .i64 qn]∧Below V0.heap.size V0 w1) own7 rfl rfl rfl (by kernel_rfl) rfl (args := #[.agg #[.int .i64 qk,.int .i64 qn]]) rfl (((Va.as_any qk qn _).mono fun e w1 q=>⟨_,q.1,rfl,q.2⟩)) ?_
       rintro v V1 ⟨rfl,hb5⟩
       have hq:=bt hq hb5
       have hS:=hS.trans (hb5.mono hS.size)
       refine⟨hS,?_⟩
       try simp only[ap]
       refine hpu 12 (o:=({ dst:=some 81,op:=Op.build 52 #[(0,Operand.tmp 74),(1,Operand.tmp 80)],type:=52,pos := "law.go:139",after := #[{ on:=5,ground:=Ground.data },{ on:=11,ground:=Ground.data }],guard:=none }:Oper)) (.agg #[.string tx,.int .i64 qk,.int .i64 qn]) (by kernel_rfl) rfl rfl (fun _ _ _ h=>h) rfl (by intro w' hSw;have e0:=(hSw.cell (p:=⟨bN,oN+k2*3,none⟩) HC0.out.1).trans HC0.out.2.1;have e1:=(hSw.cell (p:=⟨bN,oN+k2*3+1,none⟩) HC0.out.1).trans HC0.out.2.2.1;have e2:=(hSw.cell (p:=⟨bN,oN+k2*3+2,none⟩) HC0.out.1).trans HC0.out.2.2.2;clear hSw;go_simp) hS ?_
       try simp only[ap]
       refine h_oneK 13 ({ dst:=some 82,op:=Op.buildSlice 46 1 #[(0,Operand.tmp 81)],type:=46,pos := "law.go:139",after := #[{ on:=12,ground:=Ground.data }],guard:=none }:Oper) rfl (by kernel_rfl) rfl (fun K2 hK2 =>?_)
       have hown1:=own_below HOW.out.2 hq
       go_simp
       refine hK2.out _ _ (hS.alloc hS.size _) (fun hS2 =>?_)
       clear hK2 K2
       replace hS:=hS2
       clear hS2
       have hown2:=hown1.alloc (.cells #[.string tx,.int .i64 qk,.int .i64 qn] 52)
       try simp only[ap]
       refine h_oneK 14 ({ dst:=some 83,op:=Op.call { callee:=Callee.builtin Builtin.append,args := #[Operand.tmp 69,Operand.tmp 82],argTypes := #[46,46] },type:=46,pos := "law.go:139",after := #[{ on:=0,ground:=Ground.data },{ on:=13,ground:=Ground.data },{ on:=11,ground:=Ground.chain }],guard:=none }:Oper) rfl (by kernel_rfl) rfl (fun K2 hK2 =>?_)
       refine append_wp _ _ 46 rfl W1.heap.size 52 i0 (.agg #[.string ⟨#[]⟩,.int .i64 0,.int .i64 0]) 3 32 Tryz.underlying46 hi0 hz0 hz1 hz2 rfl (by decide) _ _ _ rfl hown2 ⟨V1.heap.size,0,none⟩ 1 1 [.string tx,.int .i64 qk,.int .i64 qn] rfl rfl (Va.blk_cells V1 [.string tx,.int .i64 qk,.int .i64 qn] 52) (three_one tx qk qn) (by unfold maxLen;have:=HSM2.out.1;have:=HK2.out;omega) (by have:=HSM2.out.1;have:=HK2.out;omega) hS.size ?_
       intro v' w5 hown5 hgrow5 _
       have hS5:Below W1.heap.size W1 w5:=hS.grown hgrow5 (by have:=hS.size;omega) (fun q hq=>(hown2.lt q hq).1)
       refine hK2.out _ _ hS5 (fun hS2 =>?_)
       clear hK2 K2 hS
       have hS:=hS2
       clear hS2 hS5 hown1 hown2 hgrow5
       try simp only[ap]
       refine hpu 15 (o:=({ dst:=some 12,op:=Op.assign (Operand.tmp 83),type:=46,pos := "law.go:139",after := #[{ on:=14,ground:=Ground.data },{ on:=14,ground:=Ground.chain },{ on:=0,ground:=Ground.phase },{ on:=1,ground:=Ground.phase },{ on:=2,ground:=Ground.phase },{ on:=3,ground:=Ground.phase },{ on:=4,ground:=Ground.phase },{ on:=5,ground:=Ground.phase },{ on:=6,ground:=Ground.phase },{ on:=7,ground:=Ground.phase },{ on:=8,ground:=Ground.phase },{ on:=9,ground:=Ground.phase },{ on:=10,ground:=Ground.phase },{ on:=11,ground:=Ground.phase },{ on:=12,ground:=Ground.phase },{ on:=13,ground:=Ground.phase },{ on:=14,ground:=Ground.phase }],guard:=none }:Oper)) (v') (by kernel_rfl) rfl rfl (fun _ _ _ h=>h) rfl (by intro w' hSw;have e0:=(hSw.cell (p:=⟨bN,oN+k2*3,none⟩) HC0.out.1).trans HC0.out.2.1;have e1:=(hSw.cell (p:=⟨bN,oN+k2*3+1,none⟩) HC0.out.1).trans HC0.out.2.2.1;have e2:=(hSw.cell (p:=⟨bN,oN+k2*3+2,none⟩) HC0.out.1).trans HC0.out.2.2.2;clear hSw;go_simp) hS ?_
       try simp only[ap]
       refine wpAnyH_done (by kernel_rfl) ?_ _
       have hown6:w5.ownsRow W1.heap.size 52 3 v' (k2+1) (flN (ns.take (k2+1))):=by rw[HTK.out,flN_app];exact hown5
       have HE:=Lib.hid (And.intro hS hown6)
       clear hS hown5 hown6 hq hb5 hz0 hz1 hz2 hi0
       go_wp2
       go_roundw
       case rel=>exact⟨_,k2+1,rfl,by have:=HK2.out;omega,by go_num,HE.out.1,HE.out.2⟩
       case measure=>have:=HK2.out;simp[intOf];omega
     ·obtain rfl:k2=m:=by omega
      have hkz:¬(k2:Int)<(k2:Int):=by omega
      rw[show ns.take k2=ns by rw[← HM.out];exact List.take_length]at hown
      have hown':W2.ownsRow W1.heap.size 52 3 u12 ns.length (flN ns):=by rw[HM.out];exact hown
      obtain⟨A12,c12,e12,hN12⟩:=nms_own hown'
      rw[HM.out]at e12
      subst e12
      have HBB:=Lib.hid (bt HBA.out hb)
      have hm31:ns.length≤4000:=by rw[HM.out];have:=HSM2.out.1;omega
      have HEV:=Lib.hid (fun(W:World) (q:Below W2.heap.size W2 W) (z:Int)=>Eval_any (Sc.mk (HTT.out HOK.out W (bt HBB.out q)) (HMM.out.below (bt HBB.out q)) hm31 ((HT1.out.below hb).below q).h1) c nc r z)
      have HRE:=Lib.hid (fun(W:World) (q:Below W2.heap.size W2 W) (z:Int)=>rEval_any (Rc.mk (HTT.out HOK.out W (bt HBB.out q)) (hN12.below q) hm31 ((HT1.out.below hb).below q).h2) c c12 r z)
      rw[HM.out]at HEV HRE
      have HX4:=Lib.hid (HX3.out.below hb HX3.out.lt)
      clear hown hown' hb hk2 hN12 hm31
      go_wp2
      clear hkz
      go_loopw [14] (fun v14 wr=>∃i:Nat,i≤n+2∧v14 = .int .i64 ((i:Int)-1)∧Below W2.heap.size W2 wr) (fun v14 _=>n+2-((intOf v14)+1).toNat)
      case atStart=>exact⟨0,Nat.zero_le _,rfl,Below.refl _ _⟩
      case round=>
       obtain⟨i,hi,rfl,hb⟩:=hrel
       obtain⟨W3,rfl⟩:∃W3,W3=wr:=⟨_,rfl⟩
       have HX5:=Lib.hid (HX4.out.below hb HX4.out.lt)
       have a0:=(HX5.out.cell 0).trans rfl
       have a1:=(HX5.out.cell 1).trans rfl
       by_cases hlt:i<n+2
       ·have hkz:(i:Int)-1≤(n:Int):=by omega
        have hd:decide ((i:Int)-1≤(n:Int))=true:=decide_eq_true hkz
        have hil:i≤4000:=by have:=HOK.out.1;have:=HLN.out;omega
        have hwr:=wrap64_pred i hil
        have HWR:=Lib.hid hwr
        have HI:=Lib.hid hlt
        obtain⟨z,hz⟩:∃z,(i:Int)-1=z:=⟨_,rfl⟩
        rw[hz]at hkz hd hwr ⊢
        have HZI:=Lib.hid hz
        have HC1:=Lib.hid (HEV.out W3 hb z)
        have HC2:=Lib.hid (fun W q=>HRE.out W q z)
        obtain⟨⟨⟨y1,y2⟩,e0⟩,hy⟩:∃R,evA l r ns L z=R:=⟨_,rfl⟩
        rw[hy]at HC1 HC2
        dsimp only at HC1 HC2
        have HB:=Lib.hid hb
        clear hy hb hz hwr hil hi
        go_wp2_with (go_at_call 8;refine HC1.out.mono ?_)
        rintro e w4 ⟨rfl,hb4⟩
        have hb5:=bt hb4 (heap1 w4 (.cells #[.int .i64 y1,.int .i64 y2] 43))
        have hY:=Bx.new w4 43 [.int .i64 y1,.int .i64 y2]
        go_upto_region 22 with(fail)
        obtain⟨W5,hW5⟩:∃W5,w4.alloc (.cells #[.int .i64 y1,.int .i64 y2] 43)=W5:=⟨_,rfl⟩
        rw[hW5]at hb5 ⊢
        rw[show w4.alloc (.cells [Value.int .i64 y1,.int .i64 y2].toArray 43)=W5 from hW5]at hY
        have HY:=Lib.hid hY
        have HB5:=Lib.hid (bt HB.out hb5)
        have HX6:=Lib.hid (HX5.out.below hb5 HX5.out.lt)
        clear a0 a1 hb4 hb5 hY hW5
        have a0:=(HX6.out.cell 0).trans rfl
        have a1:=(HX6.out.cell 1).trans rfl
        generalize w4.heap.size=t15 at *
        have HC3:=Lib.hid (HC2.out W5 HB5.out)
        go_wp2_with (go_at_call 9;refine HC3.out.mono ?_)
        rintro e w6 ⟨rfl,hb6⟩
        have hb7:=bt hb6 (heap1 w6 (.cells #[.int .i64 y1,.int .i64 y2] 49))
        have hZ:=Bx.new w6 49 [.int .i64 y1,.int .i64 y2]
        go_upto_region 23 with(fail)
        obtain⟨W7,hW7⟩:∃W7,w6.alloc (.cells #[.int .i64 y1,.int .i64 y2] 49)=W7:=⟨_,rfl⟩
        rw[hW7]at hb7 ⊢
        rw[show w6.alloc (.cells [Value.int .i64 y1,.int .i64 y2].toArray 49)=W7 from hW7]at hZ
        have HB7:=Lib.hid (bt HB5.out hb7)
        generalize w6.heap.size=t17 at *
        have s0:=cell_regrown (((HY.out.below hb7 HY.out.lt).cell 0).trans rfl)
        have s1:=cell_regrown (((HY.out.below hb7 HY.out.lt).cell 1).trans rfl)
        have s2:=cell_regrown ((hZ.cell 0).trans rfl)
        have s3:=cell_regrown ((hZ.cell 1).trans rfl)
        have q1:=Va.run_neq27
        have q2:(!(y1==y1&&y2==y2))=false:=by simp
        have q3:(e0 != e0)=false:=by simp
        have cq:∀d os,Calls Tryz.prog 7 #[.agg #[.int .i64 y1,.int .i64 y2]] (grow (redrawn W7 d) os) fun e w''=>e = .returned (.agg #[.int .i64 y1,.int .i64 y2])∧∃p:Regrown,w''=grow (redrawn W7 p.d) p.os:=fun d os=>Calls.regrown_of (Va.as_any y1 y2 _)
        clear a0 a1 hb6 hb7 hZ hW7
        refine wp_region_quiet_below (by kernel_rfl) (by kernel_rfl) ?_
        repeat (first|go_big_quiet_step (first|exact cq _ _))
        refine wpQuiet_nil ?_
        intro _ hw'
        obtain⟨⟨dq,osq⟩,hw''⟩:=hw'
        subst hw''
        have hbq:=below_regrown W7 dq osq
        generalize grow (redrawn W7 dq) osq=wz at *
        have HE:=Lib.hid (bt HB7.out hbq)
        clear hbq s0 s1 s2 s3 q1 cq q2 q3
        have hwr:=HWR.out
        rw[HZI.out]at hwr
        go_wp2
        go_roundw
        case rel=>exact⟨i+1,by have:=HI.out;omega,by first|rfl |rw[hwr] |go_num,HE.out⟩
        case measure=>have:=HI.out;have:=HZI.out;simp[intOf];omega
       ·obtain rfl:i=n+2:=by omega
        have hd:decide (((n+2:Nat):Int)-1≤(n:Int))=false:=decide_eq_false (by omega)
        have hkz:¬((n+2:Nat):Int)-1≤(n:Int):=by omega
        have HZ:=Lib.hid (bt HBB.out hb)
        clear hb hi hlt
        generalize ((n+2:Nat):Int)-1=zz at *
        go_wp2
        go_ret
        exact⟨rfl,HZ.out⟩
end Go.Proofs.YtignojhijmamhaaGreat
