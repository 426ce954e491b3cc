/- PROVED: Dd. No more condition. -/
import Derived.Test.YteecfjhjllajlaaGreatDoorI36
import Derived.Test.YteecfjhjllajlaaGreatDoorI40
namespace Go.Proofs.YteecfjhjllajlaaGreatDoor
section
set_option maxHeartbeats 1500000
set_option maxRecDepth 100000
open Go Go.RowKit
open Tr (Bx heap1 bt Nds Ints VPost BPost rgB par par_yes par_root par_node paL kidsAt IsPost)
theorem str_ne {s t:ByteArray}(h:s≠t):(s.toList==t.toList)=false:=beq_eq_false_iff_ne.2 λe=>h (by
 rw[ByteArray.toList_eq,ByteArray.toList_eq]at e
 cases s;cases t;simp_all)
def msI (n:Nat)(v:Value):Nat:=if intOf v<0 then 0 else n-(intOf v).toNat
theorem msI_nat (n i:Nat):msI n (.int .i64 (i:Int))=n-i:=by
 unfold msI
 rw[if_neg (by show¬(i:Int)<0;omega)]
 rfl
theorem msI_neg (n:Nat):msI n (.int .i64 (-1))=0:=rfl
theorem str_eq (s:ByteArray):(s.toList==s.toList)=true:=by simp
section
variable {K:Act→World→Prop} {Q:Exit→Act→World→Prop} {a:Act} {w:World} {o:Oper}
theorem alloc37_wp (ho:o.op = .alloc 37)(h:K (a.put o.dst (.pointer (some ⟨w.heap.size,0,none⟩))) (w.alloc (.cells #[.int .i64 0,.int .i64 0,.int .i64 0,.string ⟨#[]⟩,.slice none 0 0] 37))):o.wp Tryz.prog a w K Q:=by
 unfold Oper.wp execOp
 simp[ho,go_sem]
 exact h
theorem store37_wp {x y:Operand}{g n c:Nat}{A:Option Addr}{k1 k2 k3:Int}{s:ByteArray}{u0 u1 u2 u3 u4:Value}(ho:o.op = .store 37 x y)(hx:a.eval x = .pointer (some ⟨g,0,none⟩))(hy:a.eval y = .agg #[.int .i64 k1,.int .i64 k2,.int .i64 k3,.string s,.slice A n c])(hB:Bx w g 37 [u0,u1,u2,u3,u4])
  (h:K (a.put o.dst undef) (((((w.setCell ⟨g,0,none⟩ (.int .i64 k1)).setCell ⟨g,1,none⟩ (.int .i64 k2)).setCell ⟨g,2,none⟩ (.int .i64 k3)).setCell ⟨g,3,none⟩ (.string s)).setCell ⟨g,4,none⟩ (.slice A n c))):o.wp Tryz.prog a w K Q:=by
 have c0:=hB.cell 0
 have c1:=hB.cell 1
 have c2:=hB.cell 2
 have c3:=hB.cell 3
 have c4:=hB.cell 4
 have f0:=hB.frozen 0
 have f1:=hB.frozen 1
 have f2:=hB.frozen 2
 have f3:=hB.frozen 3
 have f4:=hB.frozen 4
 simp only[List.getElem?_cons_zero,List.getElem?_cons_succ]at c0 c1 c2 c3 c4
 unfold Oper.wp execOp
 simp only[ho,hx,hy]
 simp[go_sem,c0,c1,c2,c3,c4,f0,f1,f2,f3,f4]
 exact h
end
theorem at3_lt {l:List Tr.Nd}{b:Nat→Nat}(h:RtN l b){i:Nat}(hi:i<l.length) :
  ((ndA l i).kd=3∧owA l i=(i:Int)∧i<l.length-1)∨(i=l.length-1∧(ndA l i).kd=1∧owA l i = -1) ∨
  ((ndA l i).kd≠3∧i<l.length-1∧∃m:Nat,m<l.length∧paL l (l.length-1) l.length i=(m:Int)∧owA l i=owA l m∧i<m):=by
 rcases h.at3 hi with h1 |h1 |⟨h1,h2,m,h3,h4,h5⟩
 ·exact Or.inl h1
 ·exact Or.inr (Or.inl h1)
 ·refine Or.inr (Or.inr ⟨h1,h2,m,h3,h4,h5,?_⟩)
  obtain⟨m2,h6,h7,h8,_⟩:=par_node h.st h.zero h2
  have:m=m2:=by rw[h8]at h4;omega
  rw[this];exact h7
section
variable {w:World} {l:List Tr.Nd} {A:Option Addr} {n:Nat} {r:Int}
theorem RT.node (h:RT w A n l r){p:Nat}(hp:p<n):∃bA off K c,A=some ⟨bA,off,none⟩∧bA<w.heap.size∧w.cell? ⟨bA,off+p*5,none⟩=some (.int .i64 (ndA l p).kd)∧w.cell? ⟨bA,off+p*5+1,none⟩=some (.int .i64 (ndA l p).n) ∧
  w.cell? ⟨bA,off+p*5+2,none⟩=some (.int .i64 (ndA l p).pl)∧w.cell? ⟨bA,off+p*5+3,none⟩=some (.string (ndA l p).tx)∧w.cell? ⟨bA,off+p*5+4,none⟩=some (.slice K (ndA l p).ks.length c)∧Ints w K (ndA l p).ks:=by
 have hl:p<l.length:=by rw[← h.tt.len];exact hp
 have:=node_at h.tt.nds (Below.refl _ w) p hl
 rw[← ndA_eq hl]at this
 exact this
theorem RT.kid (h:RT w A n l r){p:Nat}(hp:p<n){j:Nat}(hj:j<(ndA l p).ks.length):∃k2:Nat,(ndA l p).ks[j]=(k2:Int)∧k2<p:=by
 obtain⟨b,hb⟩:=h.rtn
 exact hb.nat (by rw[← h.tt.len];exact hp) _ (List.getElem_mem hj)
theorem rowner_any (h:RT w A n l r)(c p:Nat)(hp:p<n):Calls Tryz.prog 88 #[.agg #[.slice A n c,.int .i64 r],.int .i64 (p:Int)] w (Tr.IPost (owA l p) w):=by
 have hb0:=heap1 w (.cells #[.slice A n c,.int .i64 r] 25)
 have HX:=Lib.hid (Bx.new w 25 [.slice A n c,.int .i64 r])
 have HB0:=Lib.hid hb0
 have HT:=Lib.hid (h.below hb0)
 obtain⟨W0,hW0⟩:∃W0,w.alloc (.cells #[.slice A n c,.int .i64 r] 25)=W0:=⟨_,rfl⟩
 rw[hW0]at HX HB0 HT
 clear h hb0
 have HPA:=Lib.hid (Tr.rparents_any A c n l r W0 HT.out.tt.nds HT.out.tt.len HT.out.tt.kids)
 obtain⟨hpl,hpa⟩:=par_at HT.out.rg
 have HPL:=Lib.hid (And.intro hpl hpa)
 clear hpl hpa
 have a0:=(HX.out.cell 0).trans rfl
 have a1:=(HX.out.cell 1).trans rfl
 go_enter Tryz.func88,Tryz.ntmps88
 go_wp2_with (go_at_call 152;refine HPA.out.mono ?_)
 rintro e w1 ⟨P,cp,rfl,hP,hb1⟩
 rw[HPL.out.1]
 have HX1:=Lib.hid (HX.out.below hb1 HX.out.lt)
 have HT1:=Lib.hid (HT.out.below hb1)
 have HB1:=Lib.hid (bt HB0.out hb1)
 have HP:=Lib.hid hP
 have HLN:=Lib.hid HT.out.tt.len
 have b0:=(HX1.out.cell 0).trans rfl
 have b1:=(HX1.out.cell 1).trans rfl
 clear hP hb1 HPA HT a0 a1 HX HB0 hW0
 rw[← HLN.out]
 go_wp2
 go_loop [6] (λv=>(∃i:Nat,v = .int .i64 (i:Int)∧i<n∧owA l i=owA l p)∨(v = .int .i64 (-1)∧owA l p = -1)) (λv=>msI n v)
 case atStart=>exact Or.inl ⟨p,rfl,hp,rfl⟩
 case round=>
  rcases hrel with⟨i,rfl,hi,how⟩ |⟨rfl,how⟩
  ·have hiz:(i:Int)<(n:Int):=by omega
   have hi0:(0:Int)≤(i:Int):=by omega
   have hil:i<l.length:=by rw[← HLN.out];exact hi
   obtain⟨bA,off,K,cK,rfl,xt,x0,_,_,_,_,_⟩:=HT1.out.node hi
   obtain⟨b,hRT⟩:=HT1.out.rtn
   have hat:=at3_lt hRT hil
   have hip:i<(par l r).length:=by rw[HPL.out.1];exact hil
   obtain⟨bP,oP,rfl,hPl,hPc⟩:=HP.out (by omega)
   have hpc:=hPc i hip
   rw[HPL.out.2 i hip]at hpc
   have HRT:=Lib.hid hRT
   have HOW:=Lib.hid how
   clear hPc how hRT hip
   rcases hat with⟨hk,hw,_⟩ |⟨hroot,hk,hw⟩ |⟨hk,_,m,hm,hpm,hw,hlt⟩
   ·have HR:=Lib.hid (hw.symm.trans HOW.out)
    rw[hk]at x0
    clear hk hw hpc hil
    go_wp2
    go_ret
    exact⟨by rw[← HR.out];try rfl,HB1.out⟩
   ·have HR:=Lib.hid (hw.symm.trans HOW.out)
    have hpr:=par_root HRT.out.st
    rw[← hroot]at hpr
    rw[show paL l (l.length-1) l.length i = -1 by rw[← hroot];exact hpr]at hpc
    rw[hk]at x0
    clear hk hw hil hroot hpr
    go_wp2
    go_round
    case rel=>exact Or.inr ⟨by go_num,HR.out.symm⟩
    case measure=>show msI n _<msI n _;rw[msI_nat,msI_neg];omega
   ·have hkb:((ndA l (i:Int)).kd==3)=false:=beq_eq_false_iff_ne.2 hk
    rw[hpm]at hpc
    have HM:=Lib.hid (And.intro (show m<n by rw[HLN.out];exact hm) (show owA l m=owA l p by rw[← hw];exact HOW.out))
    have HLT:=Lib.hid (show i<m from hlt)
    clear hk hw hil hpm hm hlt
    generalize (ndA l (i:Int)).kd=kd at *
    go_wp2
    go_round
    case rel=>exact Or.inl ⟨m,by go_num,HM.out.1,HM.out.2⟩
    case measure=>have:=HLT.out;have:=HM.out.1;show msI n _<msI n _;rw[msI_nat,msI_nat];omega
  ·go_wp2
   go_ret
   exact⟨by first|rfl |(rw[how];rfl),HB1.out⟩
theorem find_at {ks:List Int}{P:Int→Bool}{j:Nat}{k:Int}(h:∀x ∈ ks.take j,P x=false)(hj:j<ks.length)(hk:ks[j]=k)(hp:P k=true):ks.find? P=some k:=by
 rw[List.find?_eq_some_iff_append]
 refine⟨hp,ks.take j,ks.drop (j+1),?_,λx hx=>by rw[h x hx];decide⟩
 rw[← hk,← List.drop_eq_getElem_cons hj,List.take_append_drop]
theorem of_any (h:RT w A n l r)(c p:Nat)(hp:p<n)(a b:Int)(nm:ByteArray):Calls Tryz.prog 85 #[.agg #[.slice A n c,.int .i64 r],.int .i64 (p:Int),.int .i64 a,.int .i64 b,.string nm] w (Tr.IPost (ofA l p a b nm) w):=by
 have hb0:=heap1 w (.cells #[.slice A n c,.int .i64 r] 25)
 have HX:=Lib.hid (Bx.new w 25 [.slice A n c,.int .i64 r])
 have HB0:=Lib.hid hb0
 have HT:=Lib.hid (h.below hb0)
 obtain⟨W0,hW0⟩:∃W0,w.alloc (.cells #[.slice A n c,.int .i64 r] 25)=W0:=⟨_,rfl⟩
 rw[hW0]at HX HB0 HT
 clear h hb0
 obtain⟨bA,off,K,cK,rfl,xt,x0,x1,x2,x3,x4,xI⟩:=HT.out.node hp
 have HK:=Lib.hid xI
 obtain⟨m,hm⟩:∃m,m=(ndA l p).ks.length:=⟨_,rfl⟩
 have HM:=Lib.hid hm
 have hm4:m≤4000:=by rw[hm,ndA_eq (show p<l.length by rw[← HT.out.tt.len];exact hp)];exact HT.out.tt.kids _ (List.getElem_mem _)
 rw[← hm]at x4
 have a0:=(HX.out.cell 0).trans rfl
 have hpz:(p:Int)<(n:Int):=by omega
 clear x0 x1 x2 x3 xI hm
 go_enter Tryz.func85,Tryz.ntmps85
 go_wp2
 go_loopg [12] m (λg v wr=>∃j:Nat,v = .int .i64 (j:Int)∧j≤m∧g=m-j∧(∀k ∈ (ndA l p).ks.take j,ofP l a b nm k=false)∧Below W0.heap.size W0 wr)
 case atStart=>exact⟨0,rfl,Nat.zero_le _,rfl,λk hk=>by simp at hk,Below.refl _ _⟩
 case round=>
  obtain⟨j,rfl,hj,rfl,hno,hb⟩:=hrel
  have HB:=Lib.hid hb
  have HNO:=Lib.hid hno
  obtain⟨W1,rfl⟩:∃W1,W1=wr:=⟨_,rfl⟩
  clear hno hb
  by_cases hjm:j<m
  ·have hjz:(j:Int)<(m:Int):=by omega
   have hjk:j<(ndA l p).ks.length:=by rw[← HM.out];exact hjm
   obtain⟨bK,oK,rfl,hbK,hcK⟩:=HK.out (by omega)
   obtain⟨k2,hke,hk2⟩:=HT.out.kid hp hjk
   have hk2n:k2<n:=by omega
   have hck0:=hcK j hjk
   rw[hke]at hck0
   obtain⟨bB,off2,K2,cK2,e3,yt,y0,y1,y2,y3,y4,_⟩:=HT.out.node hk2n
   cases e3
   clear hcK
   go_upto_region 5 with(fail)
   have hS:Below W0.heap.size W0 { W1 with drawn:=W1.drawn+1 }:=Tr.bdrew HB.out
   refine wp_region_held (S:=λw'=>Below W0.heap.size W0 w') (by kernel_rfl) ?_
   generalize ({ W1 with drawn:=W1.drawn+1 }:World)=W5 at *
   refine hpu 0 (.pointer (some ⟨w.heap.size,0,none⟩)) (by kernel_rfl) rfl rfl (λ_ _ _ h=>h) rfl (y_field rfl rfl (run_field25_0 _)) hS ?_
   simp only[ap]
   refine hpu 1 (.slice (some ⟨bA,off,none⟩) n c) (by kernel_rfl) rfl rfl (λ_ _ _ h=>h) rfl (y_load rfl rfl (λw' q=>run_load23s (((HX.out.below q HX.out.lt).cell 0).trans rfl))) hS ?_
   simp only[ap]
   refine hpu 2 (.slice (some ⟨bK,oK,none⟩) m cK) (by kernel_rfl) rfl rfl (λ_ _ _ h=>h) rfl (y_move rfl rfl) hS ?_
   simp only[ap]
   refine hpu 3 (.int .i64 (j:Int)) (by kernel_rfl) rfl rfl (λ_ _ _ h=>h) rfl (y_move rfl rfl) hS ?_
   simp only[ap]
   refine hpu 4 (.pointer (some ⟨bK,oK+j,none⟩)) (by kernel_rfl) rfl rfl (λ_ _ _ h=>h) rfl (y_index rfl rfl rfl (λw=>run_index35 bK oK m cK j hjm w)) hS ?_
   simp only[ap]
   refine hpu 5 (.int .i64 (k2:Int)) (by kernel_rfl) rfl rfl (λ_ _ _ h=>h) rfl (y_load rfl rfl (λw' q=>run_load3s ((q.cell (p:=⟨bK,oK+j,none⟩) hbK).trans hck0))) hS ?_
   simp only[ap]
   refine hpu 6 (.pointer (some ⟨bA,off+k2*5,none⟩)) (by kernel_rfl) rfl rfl (λ_ _ _ h=>h) rfl (y_index rfl rfl rfl (λw=>run_index23 bA off n c k2 hk2n w)) hS ?_
   simp only[ap]
   refine hpu 7 (.agg #[.int .i64 (ndA l k2).kd,.int .i64 (ndA l k2).n,.int .i64 (ndA l k2).pl,.string (ndA l k2).tx,.slice K2 (ndA l k2).ks.length cK2]) (by kernel_rfl) rfl rfl (λ_ _ _ h=>h) rfl (y_load rfl rfl (λw' q=>run_load39c ((q.cell (p:=⟨bA,off+k2*5,none⟩) yt).trans y0) ((q.cell (p:=⟨bA,off+k2*5+1,none⟩) yt).trans y1) ((q.cell (p:=⟨bA,off+k2*5+2,none⟩) yt).trans y2) ((q.cell (p:=⟨bA,off+k2*5+3,none⟩) yt).trans y3) ((q.cell (p:=⟨bA,off+k2*5+4,none⟩) yt).trans y4))) hS ?_
   simp only[ap]
   refine h_one 8 _ rfl (by kernel_rfl) rfl ?_
   have hS8:=hS.alloc hS.size (.cells #[.int .i64 0,.int .i64 0,.int .i64 0,.string ⟨#[]⟩,.slice none 0 0] 37)
   refine alloc37_wp rfl ⟨hS8,?_⟩
   simp only[Act.put,List.setIfInBounds_toArray]
   refine h_one 9 _ rfl (by kernel_rfl) rfl ?_
   have hX8:=Bx.new W5 37 [.int .i64 0,.int .i64 0,.int .i64 0,.string ⟨#[]⟩,.slice none 0 0]
   have hX9:=((((hX8.set_ 0 (.int .i64 (ndA l k2).kd)).set_ 1 (.int .i64 (ndA l k2).n)).set_ 2 (.int .i64 (ndA l k2).pl)).set_ 3 (.string (ndA l k2).tx)).set_ 4 (.slice K2 (ndA l k2).ks.length cK2)
   have hS9:=((((hS8.setCell (p:=⟨W5.heap.size,0,none⟩) hS.size (.int .i64 (ndA l k2).kd)).setCell (p:=⟨W5.heap.size,1,none⟩) hS.size (.int .i64 (ndA l k2).n)).setCell (p:=⟨W5.heap.size,2,none⟩) hS.size (.int .i64 (ndA l k2).pl)).setCell (p:=⟨W5.heap.size,3,none⟩) hS.size (.string (ndA l k2).tx)).setCell (p:=⟨W5.heap.size,4,none⟩) hS.size (.slice K2 (ndA l k2).ks.length cK2)
   refine store37_wp rfl rfl rfl hX8 ⟨hS9,?_⟩
   simp only[Act.put]
   refine wpAnyH_done (by kernel_rfl) ?_ _
   have HS9:=Lib.hid hS9
   have HX9:=Lib.hid hX9
   clear hS hS8 hX8 hX9 hS9
   generalize (((((W5.alloc (.cells #[.int .i64 0,.int .i64 0,.int .i64 0,.string ⟨#[]⟩,.slice none 0 0] 37)).setCell ⟨W5.heap.size,0,none⟩ (.int .i64 (ndA l k2).kd)).setCell ⟨W5.heap.size,1,none⟩ (.int .i64 (ndA l k2).n)).setCell ⟨W5.heap.size,2,none⟩ (.int .i64 (ndA l k2).pl)).setCell ⟨W5.heap.size,3,none⟩ (.string (ndA l k2).tx)).setCell ⟨W5.heap.size,4,none⟩ (.slice K2 (ndA l k2).ks.length cK2)=W9 at *
   have c0:=(HX9.out.cell 0).trans rfl
   have c3:=(HX9.out.cell 3).trans rfl
   have ck9:=(HS9.out.cell (p:=⟨bK,oK+j,none⟩) hbK).trans hck0
   clear hck0 y0 y1 y2 y3 y4
   by_cases hP:ofP l a b nm k2=true
   ·have HF:=Lib.hid (show ofA l p a b nm=(k2:Int) by
     unfold ofA
     rw[find_at HNO.out hjk hke hP];rfl)
    unfold ofP at hP
    simp only[Bool.and_eq_true,Bool.or_eq_true,decide_eq_true_eq]at hP
    obtain⟨hab,htx⟩:=hP
    rw[htx]at c3
    have hse:=str_eq nm
    clear hjk hke
    generalize (ndA l (k2:Int)).kd=kd at *
    by_cases ha:kd=a
    ·subst ha
     have h1:(kd==kd)=true:=by simp
     go_wp2
     go_ret
     exact⟨by rw[HF.out];try rfl,bt HB0.out HS9.out⟩
    ·have hb2:kd=b:=by rcases hab with e |e;exact absurd e ha;exact e
     subst hb2
     have h1:(kd==a)=false:=beq_eq_false_iff_ne.2 ha
     have h2:(kd==kd)=true:=by simp
     clear hab ha
     go_wp2
     go_ret
     exact⟨by rw[HF.out];try rfl,bt HB0.out HS9.out⟩
   ·have HF:=Lib.hid (show∀k ∈ (ndA l p).ks.take (j+1),ofP l a b nm k=false from λk hk=>by
     rw[List.take_succ_eq_append_getElem hjk]at hk
     rcases List.mem_append.1 hk with hk |hk
     ·exact HNO.out k hk
     ·rw[List.mem_singleton.1 hk,hke];exact Bool.eq_false_iff.2 hP)
    unfold ofP at hP
    simp only[Bool.and_eq_true,Bool.or_eq_true,decide_eq_true_eq]at hP
    clear hjk hke
    generalize (ndA l (k2:Int)).kd=kd at *
    generalize (ndA l (k2:Int)).tx=tx at *
    by_cases ha:kd=a
    ·subst ha
     have h1:(kd==kd)=true:=by simp
     have h3:=str_ne (show tx≠nm from λe=>hP ⟨Or.inl rfl,e⟩)
     clear hP
     go_wp2
     go_roundg (m-(j+1))
     case measure=>go_light;omega
     case rel=>
      go_light
      exact⟨j+1,by go_num,by omega,rfl,HF.out,HS9.out⟩
    ·have h1:(kd==a)=false:=beq_eq_false_iff_ne.2 ha
     by_cases hb2:kd=b
     ·subst hb2
      have h2:(kd==kd)=true:=by simp
      have h3:=str_ne (show tx≠nm from λe=>hP ⟨Or.inr rfl,e⟩)
      clear hP ha
      go_wp2
      go_roundg (m-(j+1))
      case measure=>go_light;omega
      case rel=>
       go_light
       exact⟨j+1,by go_num,by omega,rfl,HF.out,HS9.out⟩
     ·have h2:(kd==b)=false:=beq_eq_false_iff_ne.2 hb2
      clear hP ha hb2
      go_wp2
      go_roundg (m-(j+1))
      case measure=>go_light;omega
      case rel=>
       go_light
       exact⟨j+1,by go_num,by omega,rfl,HF.out,HS9.out⟩
  ·obtain rfl:j=m:=by omega
   have hjz:¬(j:Int)<(j:Int):=by omega
   have HF:=Lib.hid (show ofA l p a b nm = -1 by
    unfold ofA
    have h5:=HNO.out
    rw[List.take_of_length_le (by rw[← HM.out];exact Nat.le_refl _)]at h5
    rw[List.find?_eq_none.2 (λx hx=>by rw[h5 x hx];decide)];rfl)
   go_wp2
   go_ret
   exact⟨by rw[HF.out];try rfl,bt HB0.out HB.out⟩
end
end
end Go.Proofs.YteecfjhjllajlaaGreatDoor
