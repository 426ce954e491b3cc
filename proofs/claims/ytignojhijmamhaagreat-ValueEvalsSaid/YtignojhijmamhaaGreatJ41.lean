/- PROVED here: parts TyDd TyDe of the claim. No condition but those in each theorem's own head. -/
import Derived.Test.YtignojhijmamhaaGreatJ35
import Derived.Test.YtignojhijmamhaaGreatJ36
import Derived.Test.YtignojhijmamhaaGreatJ40
import Derived.Test.YtignojhijmamhaaGreatJ17
import Derived.Test.YtignojhijmamhaaGreatJ06
import Derived.Test.YtignojhijmamhaaGreatJ10
namespace Go.Proofs.YtignojhijmamhaaGreat.Ty
open Go Go.RowKit
open Tr (Bx heap1 bt Nds Ints VPost BPost rgB par par_yes par_root par_node paL kidsAt IsPost)
theorem str_ne {s t:ByteArray}(h:s≠t):(s.toList==t.toList)=false:=beq_eq_false_iff_ne.2 fun e=>h (by
 rw[ByteArray.toList_eq,ByteArray.toList_eq]at e
 cases s;cases t;simp_all)
def msI (n:Nat)(v:Value):Nat:=if intOf v<0 then 0 else n-(intOf v).toNat
theorem msI_nat (n i:Nat):msI n (.int .i64 (i:Int))=n-i:=by
 unfold msI
 rw[if_neg (by show¬(i:Int)<0;omega)]
 rfl
theorem msI_neg (n:Nat):msI n (.int .i64 (-1))=0:=rfl
theorem str_eq (s:ByteArray):(s.toList==s.toList)=true:=by simp
section
variable {K:Act→World→Prop} {Q:Exit→Act→World→Prop} {a:Act} {w:World} {o:Oper}
theorem alloc37_wp (ho:o.op = .alloc 66)(h:K (a.put o.dst (.pointer (some ⟨w.heap.size,0,none⟩))) (w.alloc (.cells #[.int .i64 0,.int .i64 0,.int .i64 0,.string ⟨#[]⟩,.slice none 0 0] 66))):o.wp Tryz.prog a w K Q:=by
 unfold Oper.wp execOp
 simp[ho,go_sem]
 exact h
theorem store37_wp {x y:Operand}{g n c:Nat}{A:Option Addr}{k1 k2 k3:Int}{s:ByteArray}{u0 u1 u2 u3 u4:Value}(ho:o.op = .store 66 x y)(hx:a.eval x = .pointer (some ⟨g,0,none⟩))(hy:a.eval y = .agg #[.int .i64 k1,.int .i64 k2,.int .i64 k3,.string s,.slice A n c])(hB:Bx w g 66 [u0,u1,u2,u3,u4])
  (h:K (a.put o.dst undef) (((((w.setCell ⟨g,0,none⟩ (.int .i64 k1)).setCell ⟨g,1,none⟩ (.int .i64 k2)).setCell ⟨g,2,none⟩ (.int .i64 k3)).setCell ⟨g,3,none⟩ (.string s)).setCell ⟨g,4,none⟩ (.slice A n c))):o.wp Tryz.prog a w K Q:=by
 have c0:=hB.cell 0
 have c1:=hB.cell 1
 have c2:=hB.cell 2
 have c3:=hB.cell 3
 have c4:=hB.cell 4
 have f0:=hB.frozen 0
 have f1:=hB.frozen 1
 have f2:=hB.frozen 2
 have f3:=hB.frozen 3
 have f4:=hB.frozen 4
 simp only[List.getElem?_cons_zero,List.getElem?_cons_succ]at c0 c1 c2 c3 c4
 unfold Oper.wp execOp
 simp only[ho,hx,hy]
 simp[go_sem,c0,c1,c2,c3,c4,f0,f1,f2,f3,f4]
 exact h
end
theorem at3_lt {l:List Tr.Nd}{b:Nat→Nat}(h:RtN l b){i:Nat}(hi:i<l.length) :
  ((ndA l i).kd=3∧owA l i=(i:Int)∧i<l.length-1)∨(i=l.length-1∧(ndA l i).kd=1∧owA l i = -1) ∨
  ((ndA l i).kd≠3∧i<l.length-1∧∃m:Nat,m<l.length∧paL l (l.length-1) l.length i=(m:Int)∧owA l i=owA l m∧i<m):=by
 rcases h.at3 hi with h1 |h1 |⟨h1,h2,m,h3,h4,h5⟩
 ·exact Or.inl h1
 ·exact Or.inr (Or.inl h1)
 ·refine Or.inr (Or.inr ⟨h1,h2,m,h3,h4,h5,?_⟩)
  obtain⟨m2,h6,h7,h8,_⟩:=par_node h.st h.zero h2
  have:m=m2:=by rw[h8]at h4;omega
  rw[this];exact h7
section
variable {w:World} {l:List Tr.Nd} {A:Option Addr} {n:Nat} {r:Int}
theorem RT.node (h:RT w A n l r){p:Nat}(hp:p<n):∃bA off K c,A=some ⟨bA,off,none⟩∧bA<w.heap.size∧w.cell? ⟨bA,off+p*5,none⟩=some (.int .i64 (ndA l p).kd)∧w.cell? ⟨bA,off+p*5+1,none⟩=some (.int .i64 (ndA l p).n) ∧
  w.cell? ⟨bA,off+p*5+2,none⟩=some (.int .i64 (ndA l p).pl)∧w.cell? ⟨bA,off+p*5+3,none⟩=some (.string (ndA l p).tx)∧w.cell? ⟨bA,off+p*5+4,none⟩=some (.slice K (ndA l p).ks.length c)∧Ints w K (ndA l p).ks:=by
 have hl:p<l.length:=by rw[← h.tt.len];exact hp
 have:=node_at h.tt.nds (Below.refl _ w) p hl
 rw[← ndA_eq hl]at this
 exact this
theorem RT.kid (h:RT w A n l r){p:Nat}(hp:p<n){j:Nat}(hj:j<(ndA l p).ks.length):∃k2:Nat,(ndA l p).ks[j]=(k2:Int)∧k2<p:=by
 obtain⟨b,hb⟩:=h.rtn
 exact hb.nat (by rw[← h.tt.len];exact hp) _ (List.getElem_mem hj)
set_option maxRecDepth 100000 in
set_option maxHeartbeats 1500000 in
theorem rowner_any (h:RT w A n l r)(c p:Nat)(hp:p<n):Calls Tryz.prog 80 #[.agg #[.slice A n c,.int .i64 r],.int .i64 (p:Int)] w (Tr.IPost (owA l p) w):=by
 have hb0:=heap1 w (.cells #[.slice A n c,.int .i64 r] 24)
 have HX:=Lib.hid (Bx.new w 24 [.slice A n c,.int .i64 r])
 have HB0:=Lib.hid hb0
 have HT:=Lib.hid (h.below hb0)
 obtain⟨W0,hW0⟩:∃W0,w.alloc (.cells #[.slice A n c,.int .i64 r] 24)=W0:=⟨_,rfl⟩
 rw[hW0]at HX HB0 HT
 clear h hb0
 have HPA:=Lib.hid (Tr.rparents_any A c n l r W0 HT.out.tt.nds HT.out.tt.len HT.out.tt.kids)
 obtain⟨hpl,hpa⟩:=par_at HT.out.rg
 have HPL:=Lib.hid (And.intro hpl hpa)
 clear hpl hpa
 have a0:=(HX.out.cell 0).trans rfl
 have a1:=(HX.out.cell 1).trans rfl
 go_enter Tryz.func80,Tryz.ntmps80
 go_wp2_with (go_at_call 106;refine HPA.out.mono ?_)
 rintro e w1 ⟨P,cp,rfl,hP,hb1⟩
 rw[HPL.out.1]
 have HX1:=Lib.hid (HX.out.below hb1 HX.out.lt)
 have HT1:=Lib.hid (HT.out.below hb1)
 have HB1:=Lib.hid (bt HB0.out hb1)
 have HP:=Lib.hid hP
 have HLN:=Lib.hid HT.out.tt.len
 have b0:=(HX1.out.cell 0).trans rfl
 have b1:=(HX1.out.cell 1).trans rfl
 clear hP hb1 HPA HT a0 a1 HX HB0 hW0
 rw[← HLN.out]
 go_wp2
 go_loop [6] (fun v=>(∃i:Nat,v = .int .i64 (i:Int)∧i<n∧owA l i=owA l p)∨(v = .int .i64 (-1)∧owA l p = -1)) (fun v=>msI n v)
 case atStart=>exact Or.inl ⟨p,rfl,hp,rfl⟩
 case round=>
  rcases hrel with⟨i,rfl,hi,how⟩ |⟨rfl,how⟩
  ·have hiz:(i:Int)<(n:Int):=by omega
   have hi0:(0:Int)≤(i:Int):=by omega
   have hil:i<l.length:=by rw[← HLN.out];exact hi
   obtain⟨bA,off,K,cK,rfl,xt,x0,_,_,_,_,_⟩:=HT1.out.node hi
   obtain⟨b,hRT⟩:=HT1.out.rtn
   have hat:=at3_lt hRT hil
   have hip:i<(par l r).length:=by rw[HPL.out.1];exact hil
   obtain⟨bP,oP,rfl,hPl,hPc⟩:=HP.out (by omega)
   have hpc:=hPc i hip
   rw[HPL.out.2 i hip]at hpc
   have HRT:=Lib.hid hRT
   have HOW:=Lib.hid how
   clear hPc how hRT hip
   rcases hat with⟨hk,hw,_⟩ |⟨hroot,hk,hw⟩ |⟨hk,_,m,hm,hpm,hw,hlt⟩
   ·have HR:=Lib.hid (hw.symm.trans HOW.out)
    rw[hk]at x0
    clear hk hw hpc hil
    go_wp2
    go_ret
    exact⟨by rw[← HR.out];try rfl,HB1.out⟩
   ·have HR:=Lib.hid (hw.symm.trans HOW.out)
    have hpr:=par_root HRT.out.st
    rw[← hroot]at hpr
    rw[show paL l (l.length-1) l.length i = -1 by rw[← hroot];exact hpr]at hpc
    rw[hk]at x0
    clear hk hw hil hroot hpr
    go_wp2
    go_round
    case rel=>exact Or.inr ⟨by go_num,HR.out.symm⟩
    case measure=>show msI n _<msI n _;rw[msI_nat,msI_neg];omega
   ·have hkb:((ndA l (i:Int)).kd==3)=false:=beq_eq_false_iff_ne.2 hk
    rw[hpm]at hpc
    have HM:=Lib.hid (And.intro (show m<n by rw[HLN.out];exact hm) (show owA l m=owA l p by rw[← hw];exact HOW.out))
    have HLT:=Lib.hid (show i<m from hlt)
    clear hk hw hil hpm hm hlt
    generalize (ndA l (i:Int)).kd=kd at *
    go_wp2
    go_round
    case rel=>exact Or.inl ⟨m,by go_num,HM.out.1,HM.out.2⟩
    case measure=>have:=HLT.out;have:=HM.out.1;show msI n _<msI n _;rw[msI_nat,msI_nat];omega
  ·go_wp2
   go_ret
   exact⟨by first|rfl |(rw[how];rfl),HB1.out⟩
theorem find_at {ks:List Int}{P:Int→Bool}{j:Nat}{k:Int}(h:∀x ∈ ks.take j,P x=false)(hj:j<ks.length)(hk:ks[j]=k)(hp:P k=true):ks.find? P=some k:=by
 rw[List.find?_eq_some_iff_append]
 refine⟨hp,ks.take j,ks.drop (j+1),?_,fun x hx=>by rw[h x hx];decide⟩
 rw[← hk,← List.drop_eq_getElem_cons hj,List.take_append_drop]
set_option maxRecDepth 100000 in
set_option maxHeartbeats 1500000 in
theorem of_any (h:RT w A n l r)(c p:Nat)(hp:p<n)(a b:Int)(nm:ByteArray):Calls Tryz.prog 41 #[.agg #[.slice A n c,.int .i64 r],.int .i64 (p:Int),.int .i64 a,.int .i64 b,.string nm] w (Tr.IPost (ofA l p a b nm) w):=by
 have hb0:=heap1 w (.cells #[.slice A n c,.int .i64 r] 24)
 have HX:=Lib.hid (Bx.new w 24 [.slice A n c,.int .i64 r])
 have HB0:=Lib.hid hb0
 have HT:=Lib.hid (h.below hb0)
 obtain⟨W0,hW0⟩:∃W0,w.alloc (.cells #[.slice A n c,.int .i64 r] 24)=W0:=⟨_,rfl⟩
 rw[hW0]at HX HB0 HT
 clear h hb0
 obtain⟨bA,off,K,cK,rfl,xt,x0,x1,x2,x3,x4,xI⟩:=HT.out.node hp
 have HK:=Lib.hid xI
 obtain⟨m,hm⟩:∃m,m=(ndA l p).ks.length:=⟨_,rfl⟩
 have HM:=Lib.hid hm
 have hm4:m≤4000:=by rw[hm,ndA_eq (show p<l.length by rw[← HT.out.tt.len];exact hp)];exact HT.out.tt.kids _ (List.getElem_mem _)
 rw[← hm]at x4
 have a0:=(HX.out.cell 0).trans rfl
 have hpz:(p:Int)<(n:Int):=by omega
 clear x0 x1 x2 x3 xI hm
 go_enter Tryz.func41,Tryz.ntmps41
 go_wp2
 go_loopg [12] m (fun g v wr=>∃j:Nat,v = .int .i64 (j:Int)∧j≤m∧g=m-j∧(∀k ∈ (ndA l p).ks.take j,ofP l a b nm k=false)∧Below W0.heap.size W0 wr)
 case atStart=>exact⟨0,rfl,Nat.zero_le _,rfl,fun k hk=>by simp at hk,Below.refl _ _⟩
 case round=>
  obtain⟨j,rfl,hj,rfl,hno,hb⟩:=hrel
  have HB:=Lib.hid hb
  have HNO:=Lib.hid hno
  obtain⟨W1,rfl⟩:∃W1,W1=wr:=⟨_,rfl⟩
  clear hno hb
  by_cases hjm:j<m
  ·have hjz:(j:Int)<(m:Int):=by omega
   have hjk:j<(ndA l p).ks.length:=by rw[← HM.out];exact hjm
   obtain⟨bK,oK,rfl,hbK,hcK⟩:=HK.out (by omega)
   obtain⟨k2,hke,hk2⟩:=HT.out.kid hp hjk
   have hk2n:k2<n:=by omega
   have hck0:=hcK j hjk
   rw[hke]at hck0
   obtain⟨bB,off2,K2,cK2,e3,yt,y0,y1,y2,y3,y4,_⟩:=HT.out.node hk2n
   cases e3
   clear hcK
   go_upto_region 5 with(fail)
   have hS:Below W0.heap.size W0 { W1 with drawn:=W1.drawn+1 }:=Tr.bdrew HB.out
   refine wp_region_held (S:=fun w'=>Below W0.heap.size W0 w') (by kernel_rfl) ?_
   generalize ({ W1 with drawn:=W1.drawn+1 }:World)=W5 at *
   refine hpu 0 (.pointer (some ⟨w.heap.size,0,none⟩)) (by kernel_rfl) rfl rfl (fun _ _ _ h=>h) rfl (y_field rfl rfl (run_field25_0 _)) hS ?_
   simp only[ap]
   refine hpu 1 (.slice (some ⟨bA,off,none⟩) n c) (by kernel_rfl) rfl rfl (fun _ _ _ h=>h) rfl (y_load rfl rfl (fun w' q=>run_load23s (((HX.out.below q HX.out.lt).cell 0).trans rfl))) hS ?_
   simp only[ap]
   refine hpu 2 (.slice (some ⟨bK,oK,none⟩) m cK) (by kernel_rfl) rfl rfl (fun _ _ _ h=>h) rfl (y_move rfl rfl) hS ?_
   simp only[ap]
   refine hpu 3 (.int .i64 (j:Int)) (by kernel_rfl) rfl rfl (fun _ _ _ h=>h) rfl (y_move rfl rfl) hS ?_
   simp only[ap]
   refine hpu 4 (.pointer (some ⟨bK,oK+j,none⟩)) (by kernel_rfl) rfl rfl (fun _ _ _ h=>h) rfl (y_index rfl rfl rfl (fun w=>run_index35 bK oK m cK j hjm w)) hS ?_
   simp only[ap]
   refine hpu 5 (.int .i64 (k2:Int)) (by kernel_rfl) rfl rfl (fun _ _ _ h=>h) rfl (y_load rfl rfl (fun w' q=>run_load3s ((q.cell (p:=⟨bK,oK+j,none⟩) hbK).trans hck0))) hS ?_
   simp only[ap]
   refine hpu 6 (.pointer (some ⟨bA,off+k2*5,none⟩)) (by kernel_rfl) rfl rfl (fun _ _ _ h=>h) rfl (y_index rfl rfl rfl (fun w=>run_index23 bA off n c k2 hk2n w)) hS ?_
   simp only[ap]
   refine hpu 7 (.agg #[.int .i64 (ndA l k2).kd,.int .i64 (ndA l k2).n,.int .i64 (ndA l k2).pl,.string (ndA l k2).tx,.slice K2 (ndA l k2).ks.length cK2]) (by kernel_rfl) rfl rfl (fun _ _ _ h=>h) rfl (y_load rfl rfl (fun w' q=>run_load39c ((q.cell (p:=⟨bA,off+k2*5,none⟩) yt).trans y0) ((q.cell (p:=⟨bA,off+k2*5+1,none⟩) yt).trans y1) ((q.cell (p:=⟨bA,off+k2*5+2,none⟩) yt).trans y2) ((q.cell (p:=⟨bA,off+k2*5+3,none⟩) yt).trans y3) ((q.cell (p:=⟨bA,off+k2*5+4,none⟩) yt).trans y4))) hS ?_
   simp only[ap]
   refine h_one 8 _ rfl (by kernel_rfl) rfl ?_
   have hS8:=hS.alloc hS.size (.cells #[.int .i64 0,.int .i64 0,.int .i64 0,.string ⟨#[]⟩,.slice none 0 0] 66)
   refine alloc37_wp rfl ⟨hS8,?_⟩
   simp only[Act.put,List.setIfInBounds_toArray]
   refine h_one 9 _ rfl (by kernel_rfl) rfl ?_
   have hX8:=Bx.new W5 66 [.int .i64 0,.int .i64 0,.int .i64 0,.string ⟨#[]⟩,.slice none 0 0]
   have hX9:=((((hX8.set_ 0 (.int .i64 (ndA l k2).kd)).set_ 1 (.int .i64 (ndA l k2).n)).set_ 2 (.int .i64 (ndA l k2).pl)).set_ 3 (.string (ndA l k2).tx)).set_ 4 (.slice K2 (ndA l k2).ks.length cK2)
   have hS9:=((((hS8.setCell (p:=⟨W5.heap.size,0,none⟩) hS.size (.int .i64 (ndA l k2).kd)).setCell (p:=⟨W5.heap.size,1,none⟩) hS.size (.int .i64 (ndA l k2).n)).setCell (p:=⟨W5.heap.size,2,none⟩) hS.size (.int .i64 (ndA l k2).pl)).setCell (p:=⟨W5.heap.size,3,none⟩) hS.size (.string (ndA l k2).tx)).setCell (p:=⟨W5.heap.size,4,none⟩) hS.size (.slice K2 (ndA l k2).ks.length cK2)
   refine store37_wp rfl rfl rfl hX8 ⟨hS9,?_⟩
   simp only[Act.put]
   refine wpAnyH_done (by kernel_rfl) ?_ _
   have HS9:=Lib.hid hS9
   have HX9:=Lib.hid hX9
   clear hS hS8 hX8 hX9 hS9
   generalize (((((W5.alloc (.cells #[.int .i64 0,.int .i64 0,.int .i64 0,.string ⟨#[]⟩,.slice none 0 0] 66)).setCell ⟨W5.heap.size,0,none⟩ (.int .i64 (ndA l k2).kd)).setCell ⟨W5.heap.size,1,none⟩ (.int .i64 (ndA l k2).n)).setCell ⟨W5.heap.size,2,none⟩ (.int .i64 (ndA l k2).pl)).setCell ⟨W5.heap.size,3,none⟩ (.string (ndA l k2).tx)).setCell ⟨W5.heap.size,4,none⟩ (.slice K2 (ndA l k2).ks.length cK2)=W9 at *
   have c0:=(HX9.out.cell 0).trans rfl
   have c3:=(HX9.out.cell 3).trans rfl
   have ck9:=(HS9.out.cell (p:=⟨bK,oK+j,none⟩) hbK).trans hck0
   clear hck0 y0 y1 y2 y3 y4
   by_cases hP:ofP l a b nm k2=true
   ·have HF:=Lib.hid (show ofA l p a b nm=(k2:Int) by
     unfold ofA
     rw[find_at HNO.out hjk hke hP];rfl)
    unfold ofP at hP
    simp only[Bool.and_eq_true,Bool.or_eq_true,decide_eq_true_eq]at hP
    obtain⟨hab,htx⟩:=hP
    rw[htx]at c3
    have hse:=str_eq nm
    clear hjk hke
    generalize (ndA l (k2:Int)).kd=kd at *
    by_cases ha:kd=a
    ·subst ha
     have h1:(kd==kd)=true:=by simp
     go_wp2
     go_ret
     exact⟨by rw[HF.out];try rfl,bt HB0.out HS9.out⟩
    ·have hb2:kd=b:=by rcases hab with e |e;exact absurd e ha;exact e
     subst hb2
     have h1:(kd==a)=false:=beq_eq_false_iff_ne.2 ha
     have h2:(kd==kd)=true:=by simp
     clear hab ha
     go_wp2
     go_ret
     exact⟨by rw[HF.out];try rfl,bt HB0.out HS9.out⟩
   ·have HF:=Lib.hid (show∀k ∈ (ndA l p).ks.take (j+1),ofP l a b nm k=false from fun k hk=>by
     rw[List.take_succ_eq_append_getElem hjk]at hk
     rcases List.mem_append.1 hk with hk |hk
     ·exact HNO.out k hk
     ·rw[List.mem_singleton.1 hk,hke];exact Bool.eq_false_iff.2 hP)
    unfold ofP at hP
    simp only[Bool.and_eq_true,Bool.or_eq_true,decide_eq_true_eq]at hP
    clear hjk hke
    generalize (ndA l (k2:Int)).kd=kd at *
    generalize (ndA l (k2:Int)).tx=tx at *
    by_cases ha:kd=a
    ·subst ha
     have h1:(kd==kd)=true:=by simp
     have h3:=str_ne (show tx≠nm from fun e=>hP ⟨Or.inl rfl,e⟩)
     clear hP
     go_wp2
     go_roundg (m-(j+1))
     case measure=>go_light;omega
     case rel=>
      go_light
      exact⟨j+1,by go_num,by omega,rfl,HF.out,HS9.out⟩
    ·have h1:(kd==a)=false:=beq_eq_false_iff_ne.2 ha
     by_cases hb2:kd=b
     ·subst hb2
      have h2:(kd==kd)=true:=by simp
      have h3:=str_ne (show tx≠nm from fun e=>hP ⟨Or.inr rfl,e⟩)
      clear hP ha
      go_wp2
      go_roundg (m-(j+1))
      case measure=>go_light;omega
      case rel=>
       go_light
       exact⟨j+1,by go_num,by omega,rfl,HF.out,HS9.out⟩
     ·have h2:(kd==b)=false:=beq_eq_false_iff_ne.2 hb2
      clear hP ha hb2
      go_wp2
      go_roundg (m-(j+1))
      case measure=>go_light;omega
      case rel=>
       go_light
       exact⟨j+1,by go_num,by omega,rfl,HF.out,HS9.out⟩
  ·obtain rfl:j=m:=by omega
   have hjz:¬(j:Int)<(j:Int):=by omega
   have HF:=Lib.hid (show ofA l p a b nm = -1 by
    unfold ofA
    have h5:=HNO.out
    rw[List.take_of_length_le (by rw[← HM.out];exact Nat.le_refl _)]at h5
    rw[List.find?_eq_none.2 (fun x hx=>by rw[h5 x hx];decide)];rfl)
   go_wp2
   go_ret
   exact⟨by rw[HF.out];try rfl,bt HB0.out HB.out⟩
end
end Go.Proofs.YtignojhijmamhaaGreat.Ty
namespace Go.Proofs.YtignojhijmamhaaGreat.Ty
open Go Go.RowKit Go.Sort
open Tr (Bx heap1 bt Nds Ints VPost BPost rgB par par_yes par_root par_node paL kidsAt IsPost)
theorem own_regrown {base n:Nat}{v:Value}{xs:List Value}{w:World}(h:w.ownsRow base 3 1 v n xs)(d:Nat)(os:Array Obj):(grow (redrawn w d) os).ownsRow base 3 1 v n xs:=by
 have hb:=below_regrown w d os
 refine⟨h.1,h.2.imp id ?_⟩
 rintro⟨g,cap,cur,h1,h2,h3,h4⟩
 refine⟨g,cap,cur,h1,h2,?_,h4⟩
 have:=(Array.getElem?_eq_some_iff.1 h3).1
 exact(hb.block g this).trans h3
section
variable {K:Act→World→Prop} {Q:Exit→Act→World→Prop} {a:Act} {w:World} {o:Oper}
theorem assign_wp {x:Operand}{v:Value}(ho:o.op = .assign x)(hx:a.eval x=v)(h:K (a.put o.dst v) w):o.wp Tryz.prog a w K Q:=by
 unfold Oper.wp execOp
 simp only[ho,hx]
 simp[go_sem]
 exact h
end
section
variable {w:World} {l:List Tr.Nd} {A:Option Addr} {n:Nat} {r:Int}
def kdT (l:List Tr.Nd)(p:Nat)(nm:ByteArray):Int:=match dnA l p nm with|none=>0 |some d=>(ndA l d).n
set_option maxRecDepth 100000 in
set_option maxHeartbeats 1500000 in
theorem means_any (h:RT w A n l r)(c p:Nat)(nm:ByteArray)(hp:p<n):Calls Tryz.prog 102 #[.agg #[.slice A n c,.int .i64 r],.int .i64 (p:Int),.string nm] w (Tr.IPost (optZ (dnA l p nm)) w):=by
 have hb0:=heap1 w (.cells #[.slice A n c,.int .i64 r] 24)
 have HX:=Lib.hid (Bx.new w 24 [.slice A n c,.int .i64 r])
 have HB0:=Lib.hid hb0
 have HT:=Lib.hid (h.below hb0)
 obtain⟨W0,hW0⟩:∃W0,w.alloc (.cells #[.slice A n c,.int .i64 r] 24)=W0:=⟨_,rfl⟩
 rw[hW0]at HX HB0 HT
 clear h hb0
 have HO:=Lib.hid (rowner_any HT.out c p hp)
 have a0:=(HX.out.cell 0).trans rfl
 have a1:=(HX.out.cell 1).trans rfl
 have HLN:=Lib.hid HT.out.tt.len
 rcases owA_range l p with e |⟨q,e,_,hq,hq3⟩
 ·rw[e]at HO
  rw[dn_no e,show optZ none = -1 from rfl]
  clear e
  go_enter Tryz.func102,Tryz.ntmps102
  go_wp2_with (go_at_call 80;refine HO.out.mono ?_)
  rintro e w1 ⟨rfl,hb1⟩
  have HB1:=Lib.hid (bt HB0.out hb1)
  clear hb1
  go_wp2
  go_ret
  exact⟨rfl,HB1.out⟩
 ·obtain⟨b,hRT⟩:=HT.out.rtn
  have hm:=hRT.mean e nm
  have hroot:=HT.out.root
  have hlen:=hRT.len
  rw[← hroot]at hm
  have hqn:q<n:=by rw[HLN.out];exact hq
  have HF1:=Lib.hid (fun W (k:Below W0.heap.size W0 W)=>of_any (HT.out.below k) c q hqn 4 5 nm)
  have hF2:=fun W (k:Below W0.heap.size W0 W)=>of_any (HT.out.below k) c (l.length-1) (by rw[HLN.out];omega) 2 2 nm
  rw[← hroot]at hF2
  have HF2:=Lib.hid hF2
  have hq0:¬(q:Int)<0:=by omega
  rw[e]at HO
  rw[hm]
  clear e hm hRT hroot hlen hF2 hq hq3
  generalize ofA l q 4 5 nm=d1 at *
  generalize ofA l r 2 2 nm=d2 at *
  by_cases hd:d1<0
  ·rw[if_pos hd]
   go_enter Tryz.func102,Tryz.ntmps102
   go_wp2_with (go_at_call 80;refine HO.out.mono ?_)
   rintro e w1 ⟨rfl,hb1⟩
   have HB1:=Lib.hid hb1
   have b0:=((HX.out.below hb1 HX.out.lt).cell 0).trans rfl
   have b1:=((HX.out.below hb1 HX.out.lt).cell 1).trans rfl
   clear hb1 a0 a1
   go_wp2_with (go_at_call 41;refine(HF1.out _ HB1.out).mono ?_)
   rintro e w2 ⟨rfl,hb2⟩
   have hb3:=bt HB1.out hb2
   have HB2:=Lib.hid hb3
   clear b0 b1
   have b0:=((HX.out.below hb3 HX.out.lt).cell 0).trans rfl
   have b1:=((HX.out.below hb3 HX.out.lt).cell 1).trans rfl
   clear hb2 hb3
   go_wp2_with (go_at_call 41;refine(HF2.out _ HB2.out).mono ?_)
   rintro e w3 ⟨rfl,hb4⟩
   have HB3:=Lib.hid (bt HB0.out (bt HB2.out hb4))
   clear hb4
   go_wp2
   go_ret
   exact⟨rfl,HB3.out⟩
  ·rw[if_neg hd]
   go_enter Tryz.func102,Tryz.ntmps102
   go_wp2_with (go_at_call 80;refine HO.out.mono ?_)
   rintro e w1 ⟨rfl,hb1⟩
   have HB1:=Lib.hid hb1
   have b0:=((HX.out.below hb1 HX.out.lt).cell 0).trans rfl
   have b1:=((HX.out.below hb1 HX.out.lt).cell 1).trans rfl
   clear hb1 a0 a1
   go_wp2_with (go_at_call 41;refine(HF1.out _ HB1.out).mono ?_)
   rintro e w2 ⟨rfl,hb2⟩
   have HB2:=Lib.hid (bt HB0.out (bt HB1.out hb2))
   clear hb2
   go_wp2
   go_ret
   exact⟨rfl,HB2.out⟩
set_option maxRecDepth 100000 in
set_option maxHeartbeats 1500000 in
theorem kind_any (h:RT w A n l r)(c p:Nat)(nm:ByteArray)(hp:p<n):Calls Tryz.prog 104 #[.agg #[.slice A n c,.int .i64 r],.int .i64 (p:Int),.string nm] w (Tr.IPost (kdT l p nm) w):=by
 have hb0:=heap1 w (.cells #[.slice A n c,.int .i64 r] 24)
 have HX:=Lib.hid (Bx.new w 24 [.slice A n c,.int .i64 r])
 have HB0:=Lib.hid hb0
 have HT:=Lib.hid (h.below hb0)
 obtain⟨W0,hW0⟩:∃W0,w.alloc (.cells #[.slice A n c,.int .i64 r] 24)=W0:=⟨_,rfl⟩
 rw[hW0]at HX HB0 HT
 clear h hb0
 have HM:=Lib.hid (means_any HT.out c p nm hp)
 have a0:=(HX.out.cell 0).trans rfl
 have a1:=(HX.out.cell 1).trans rfl
 have HLN:=Lib.hid HT.out.tt.len
 unfold kdT
 cases e:dnA l p nm with
 |none=>
  rw[e,show optZ none = -1 from rfl]at HM
  clear e
  go_enter Tryz.func104,Tryz.ntmps104
  go_wp2_with (go_at_call 102;refine HM.out.mono ?_)
  rintro e w1 ⟨rfl,hb1⟩
  have HB1:=Lib.hid (bt HB0.out hb1)
  clear hb1
  go_wp2
  go_ret
  exact⟨rfl,HB1.out⟩
 |some d=>
  have hd:=(dnA_lt e).1
  have hdn:d<n:=by rw[HLN.out];exact hd
  have hdz:(d:Int)<(n:Int):=by omega
  have hd0:¬(d:Int)<0:=by omega
  rw[e,show optZ (some d)=(d:Int)from rfl]at HM
  show Calls _ _ _ _ (Tr.IPost (ndA l d).n w)
  clear e hd
  go_enter Tryz.func104,Tryz.ntmps104
  go_wp2_with (go_at_call 102;refine HM.out.mono ?_)
  rintro e w1 ⟨rfl,hb1⟩
  have HB1:=Lib.hid (bt HB0.out hb1)
  have b0:=((HX.out.below hb1 HX.out.lt).cell 0).trans rfl
  obtain⟨bA,off,K,cK,rfl,xt,x0,x1,_⟩:=(HT.out.below hb1).node hdn
  clear hb1 a0 a1 x0 HT HM
  generalize (ndA l (d:Int)).n=dv at *
  go_wp2
  go_ret
  exact⟨rfl,HB1.out⟩
set_option maxRecDepth 100000 in
set_option maxHeartbeats 1500000 in
theorem params_any (h:RT w A n l r)(c p:Nat)(hp:p<n):Calls Tryz.prog 42 #[.agg #[.slice A n c,.int .i64 r],.int .i64 (p:Int)] w (IsPost (sgP l p) w):=by
 obtain⟨i0,hi,hz0,hz1,hz2⟩:=info_parts info3
 have hb0:=heap1 w (.cells #[.slice A n c,.int .i64 r] 24)
 have HX:=Lib.hid (Bx.new w 24 [.slice A n c,.int .i64 r])
 have HB0:=Lib.hid hb0
 have HT:=Lib.hid (h.below hb0)
 obtain⟨W0,hW0⟩:∃W0,w.alloc (.cells #[.slice A n c,.int .i64 r] 24)=W0:=⟨_,rfl⟩
 rw[hW0]at HX HB0 HT
 clear h hb0
 obtain⟨bA,off,K,cK,rfl,xt,x0,x1,x2,x3,x4,xI⟩:=HT.out.node hp
 have HK:=Lib.hid xI
 obtain⟨m,hm⟩:∃m,m=(ndA l p).ks.length:=⟨_,rfl⟩
 have HM:=Lib.hid hm
 have hm4:m≤4000:=by rw[hm,ndA_eq (show p<l.length by rw[← HT.out.tt.len];exact hp)];exact HT.out.tt.kids _ (List.getElem_mem _)
 rw[← hm]at x4
 have a0:=(HX.out.cell 0).trans rfl
 have hpz:(p:Int)<(n:Int):=by omega
 clear x0 x1 x2 x3 xI hm
 show Calls _ _ _ _ (IsPost (sgX l (ndA l p).ks) w)
 go_enter Tryz.func42,Tryz.ntmps42
 go_wp2
 go_loopw [5,7] (fun v5 i wr=>∃(j:Nat),j≤m∧i = .int .i64 (j:Int)∧Below W0.heap.size W0 wr∧wr.ownsRow W0.heap.size 3 1 v5 (sgX l ((ndA l p).ks.take j)).length ((sgX l ((ndA l p).ks.take j)).map (Value.int .i64))) (fun _ i _=>m-(intOf i).toNat)
 case atStart=>exact⟨0,Nat.zero_le _,rfl,Below.refl _ _,World.ownsRow_nil _ _ _ _⟩
 case round=>
  obtain⟨j,hj,rfl,hb,ho⟩:=hrel
  have HB:=Lib.hid hb
  obtain⟨W1,rfl⟩:∃W1,W1=wr:=⟨_,rfl⟩
  by_cases hjm:j<m
  ·have hjz:(j:Int)<(m:Int):=by omega
   have hjk:j<(ndA l p).ks.length:=by rw[← HM.out];exact hjm
   obtain⟨bK,oK,rfl,hbK,hcK⟩:=HK.out (by omega)
   obtain⟨k2,hke,hk2⟩:=HT.out.kid hp hjk
   have hk2n:k2<n:=by omega
   have hk2z:(k2:Int)<(n:Int):=by omega
   have hck0:=hcK j hjk
   rw[hke]at hck0
   obtain⟨bB,off2,K2,cK2,e3,yt,y0,y1,_⟩:=HT.out.node hk2n
   cases e3
   have HST:=Lib.hid (sgX_step l hjk)
   rw[hke]at HST
   have HXL:=Lib.hid (show(sgX l ((ndA l p).ks.take j)).length≤4000 from Nat.le_trans (sgX_len l _) (by rw[List.length_take];omega))
   obtain⟨xs,hxs⟩:∃xs,xs=sgX l ((ndA l p).ks.take j):=⟨_,rfl⟩
   rw[← hxs]at ho HST HXL
   obtain⟨VL,cL,rfl,_⟩:=own_ints ho
   have HO:=Lib.hid ho
   have a0:=((HX.out.below hb HX.out.lt).cell 0).trans rfl
   have ck:=(hb.cell (p:=⟨bK,oK+j,none⟩) hbK).trans hck0
   have ckd:=(hb.cell (p:=⟨bA,off+k2*5,none⟩) yt).trans y0
   have HY:=Lib.hid (And.intro hck0 y1)
   clear hcK hke hxs ho hb hck0 y0 y1
   have s0:=cell_regrown a0
   have s1:=cell_regrown ck
   have s2:=cell_regrown ckd
   clear a0 ck ckd
   go_upto_region 6 with(fail)
   refine wp_region_quiet_below (by kernel_rfl) (by kernel_rfl) ?_
   repeat (go_big_quiet_step (first|fail))
   refine wpQuiet_nil ?_
   intro _ hw'
   obtain⟨⟨dq,osq⟩,hw''⟩:=hw'
   subst hw''
   have hbq:=below_regrown W1 dq osq
   have hoq:(grow (redrawn W1 dq) osq).ownsRow W0.heap.size 3 1 (.slice VL xs.length cL) xs.length (xs.map (Value.int .i64)):=own_regrown HO.out dq osq
   generalize grow (redrawn W1 dq) osq=W4 at *
   have HB4:=Lib.hid (HB.out.trans (hbq.mono HB.out.size))
   have HO4:=Lib.hid hoq
   clear s0 s1 s2 hbq hoq
   by_cases hk4:(ndA l (k2:Int)).kd=4
   ·rw[if_pos hk4]at HST
    rw[hk4]
    clear hk4
    generalize (ndA l (k2:Int)).n=kn at *
    have hxl:=HXL.out
    have HY2:=HY.out
    go_upto_region 7 with(fail)
    have hS:Below W0.heap.size W0 { W4 with drawn:=W4.drawn+1 }:=Tr.bdrew HB4.out
    have hO:=own_drew HO4.out
    refine wp_region_held (S:=fun w'=>Below W0.heap.size W0 w') (by kernel_rfl) ?_
    generalize ({ W4 with drawn:=W4.drawn+1 }:World)=W5 at *
    refine hpu 0 (.slice VL xs.length cL) (by kernel_rfl) rfl rfl (fun _ _ _ h=>h) rfl (y_move rfl rfl) hS ?_
    simp only[ap]
    refine hpu 1 (.pointer (some ⟨w.heap.size,0,none⟩)) (by kernel_rfl) rfl rfl (fun _ _ _ h=>h) rfl (y_field rfl rfl (run_field25_0 _)) hS ?_
    simp only[ap]
    refine hpu 2 (.slice (some ⟨bA,off,none⟩) n c) (by kernel_rfl) rfl rfl (fun _ _ _ h=>h) rfl (y_load rfl rfl (fun w' q=>run_load23s (((HX.out.below q HX.out.lt).cell 0).trans rfl))) hS ?_
    simp only[ap]
    refine hpu 3 (.slice (some ⟨bK,oK,none⟩) m cK) (by kernel_rfl) rfl rfl (fun _ _ _ h=>h) rfl (y_move rfl rfl) hS ?_
    simp only[ap]
    refine hpu 4 (.int .i64 (j:Int)) (by kernel_rfl) rfl rfl (fun _ _ _ h=>h) rfl (y_move rfl rfl) hS ?_
    simp only[ap]
    refine hpu 5 (.pointer (some ⟨bK,oK+j,none⟩)) (by kernel_rfl) rfl rfl (fun _ _ _ h=>h) rfl (y_index rfl rfl rfl (fun w=>run_index35 bK oK m cK j hjm w)) hS ?_
    simp only[ap]
    refine hpu 6 (.int .i64 (k2:Int)) (by kernel_rfl) rfl rfl (fun _ _ _ h=>h) rfl (y_load rfl rfl (fun w' q=>run_load3s ((q.cell (p:=⟨bK,oK+j,none⟩) hbK).trans HY2.1))) hS ?_
    simp only[ap]
    refine hpu 7 (.pointer (some ⟨bA,off+k2*5,none⟩)) (by kernel_rfl) rfl rfl (fun _ _ _ h=>h) rfl (y_index rfl rfl rfl (fun w=>run_index23 bA off n c k2 hk2n w)) hS ?_
    simp only[ap]
    refine hpu 8 (.pointer (some ⟨bA,off+k2*5+1,none⟩)) (by kernel_rfl) rfl rfl (fun _ _ _ h=>h) rfl (y_field rfl rfl (run_field37_1g _ _)) hS ?_
    simp only[ap]
    refine hpu 9 (.int .i64 kn) (by kernel_rfl) rfl rfl (fun _ _ _ h=>h) rfl (y_load rfl rfl (fun w' q=>run_load3s ((q.cell (p:=⟨bA,off+k2*5+1,none⟩) yt).trans HY2.2))) hS ?_
    simp only[ap]
    refine h_one 10 _ rfl (by kernel_rfl) rfl ?_
    have hSa:=hS.alloc hS.size (.cells #[.int .i64 kn] 3)
    refine slice1 rfl rfl ⟨hSa,?_⟩
    simp only[Act.put,List.setIfInBounds_toArray]
    refine h_one 11 _ rfl (by kernel_rfl) rfl ?_
    refine wp_append_own2 (W5.alloc (.cells #[.int .i64 kn] 3)) _ _ 64 rfl W0.heap.size 3 i0 (.int .i64 0) 1 8 Tryz.underlying64 hi hz0 hz1 hz2 rfl (by decide) (.slice VL xs.length cL) xs.length (xs.map (Value.int .i64)) rfl (hO.kept (row:=none) (World.grownBy_alloc _ _ _) (Classical.em _)) ⟨W5.heap.size,0,none⟩ 1 1 [.int .i64 kn] rfl rfl (blk_cells W5 [.int .i64 kn] 3) (fun u hu=>by rw[List.mem_singleton.1 hu];rfl) (by unfold maxLen;omega) (by omega) (by rw[World.size_alloc];have:=hS.size;omega) ?_
    intro v' w4 hown4 hgrow4 _
    have hown5:w4.ownsRow W0.heap.size 3 1 v' (xs++[kn]).length ((xs++[kn]).map (Value.int .i64)):=by rw[List.length_append,List.map_append];exact hown4
    have hS4:Below W0.heap.size W0 w4:=hSa.grown hgrow4 hSa.size (fun k e=>(hO.lt k e).1)
    refine⟨hS4,?_⟩
    simp only[Act.put]
    refine h_one 12 _ rfl (by kernel_rfl) rfl ?_
    refine assign_wp rfl rfl ⟨hS4,?_⟩
    simp only[Act.put]
    refine wpAnyH_done (by kernel_rfl) ?_ _
    have HH:=Lib.hid (And.intro hS4 hown5)
    clear hS hO hown4 hown5 hgrow4 hS4 hSa
    go_wp2
    go_roundw
    case rel=>exact⟨j+1,by omega,by go_num,HH.out.1,by rw[HST.out];exact HH.out.2⟩
    case measure=>simp[intOf];omega
   ·have hk4':((ndA l (k2:Int)).kd==4)=false:=beq_eq_false_iff_ne.2 hk4
    rw[if_neg hk4,List.append_nil]at HST
    clear hk4
    generalize (ndA l (k2:Int)).kd=kk at *
    go_wp2
    go_roundw
    case rel=>exact⟨j+1,by omega,by go_num,HB4.out,by rw[HST.out];exact HO4.out⟩
    case measure=>simp[intOf];omega
  ·have hjz:¬(j:Int)<(m:Int):=by omega
   have hall:(ndA l p).ks.take j=(ndA l p).ks:=List.take_of_length_le (by have:=HM.out;omega)
   rw[hall]at ho
   obtain⟨VL,cL,rfl,hints⟩:=own_ints ho
   have HH:=Lib.hid hints
   clear ho hints hall hb
   generalize sgX l (ndA l p).ks=xs at *
   go_wp2
   go_ret
   exact⟨VL,cL,rfl,HH.out,bt HB0.out HB.out⟩
set_option maxRecDepth 100000 in
set_option maxHeartbeats 1500000 in
theorem rplain_any (h:RT w A n l r)(c p:Nat)(hp:p<n):Calls Tryz.prog 76 #[.agg #[.slice A n c,.int .i64 r],.int .i64 (p:Int)] w (BPost (plnB l p) w):=by
 have hb0:=heap1 w (.cells #[.slice A n c,.int .i64 r] 24)
 have HX:=Lib.hid (Bx.new w 24 [.slice A n c,.int .i64 r])
 have HB0:=Lib.hid hb0
 have HT:=Lib.hid (h.below hb0)
 obtain⟨W0,hW0⟩:∃W0,w.alloc (.cells #[.slice A n c,.int .i64 r] 24)=W0:=⟨_,rfl⟩
 rw[hW0]at HX HB0 HT
 clear h hb0
 have HP:=Lib.hid (params_any HT.out c p hp)
 have a0:=(HX.out.cell 0).trans rfl
 have a1:=(HX.out.cell 1).trans rfl
 have hpz:(p:Int)<(n:Int):=by omega
 unfold plnB
 generalize sgP l p=xs at *
 go_enter Tryz.func76,Tryz.ntmps76
 go_wp2_with (go_at_call 42;refine HP.out.mono ?_)
 rintro e w1 ⟨S,cS,rfl,hS,hb1⟩
 have HB1:=Lib.hid (bt HB0.out hb1)
 have b0:=((HX.out.below hb1 HX.out.lt).cell 0).trans rfl
 obtain⟨bA,off,K,cK,rfl,xt,x0,x1,_⟩:=(HT.out.below hb1).node hp
 clear hb1 a0 a1 x0 HT HP
 generalize (ndA l (p:Int)).n=pn at *
 by_cases hl:xs.length=1
 ·obtain⟨x,rfl⟩:=len_one hl
  obtain⟨bS,oS,rfl,_,hcS⟩:=hS (by simp)
  have s0:w1.cell? ⟨bS,oS,none⟩=some (.int .i64 x):=hcS 0 (by simp)
  clear hS hcS hl
  have hl1:(([x]:List Int).length)=1:=rfl
  rw[hl1]
  by_cases hx:x=1
  ·subst hx
   by_cases hpn:pn=1
   ·subst hpn
    go_wp2
    go_ret
    exact⟨rfl,HB1.out⟩
   ·have h2:(pn==1)=false:=beq_eq_false_iff_ne.2 hpn
    have h3:(decide (([1]:List Int)=[1])&&decide (pn=1))=false:=by rw[decide_eq_false hpn];rfl
    have HV:=Lib.hid h3
    clear hpn h3
    go_wp2
    go_ret
    exact⟨by rw[HV.out];try rfl,HB1.out⟩
  ·have h2:(x==1)=false:=beq_eq_false_iff_ne.2 hx
   have h3:(decide (([x]:List Int)=[1])&&decide (pn=1))=false:=by rw[decide_eq_false (by simp[hx])];rfl
   have HV:=Lib.hid h3
   clear hx h3
   go_wp2
   go_ret
   exact⟨by rw[HV.out];try rfl,HB1.out⟩
 ·have h3:(decide (xs=[1])&&decide (pn=1))=false:=by
   rw[decide_eq_false (fun e=>hl (by rw[e];rfl))];rfl
  have HV:=Lib.hid h3
  have h2:((xs.length:Int)==1)=false:=beq_eq_false_iff_ne.2 (by omega)
  clear hS hl h3
  generalize xs.length=m at *
  go_wp2
  go_ret
  exact⟨by rw[HV.out];try rfl,HB1.out⟩
end
end Go.Proofs.YtignojhijmamhaaGreat.Ty
