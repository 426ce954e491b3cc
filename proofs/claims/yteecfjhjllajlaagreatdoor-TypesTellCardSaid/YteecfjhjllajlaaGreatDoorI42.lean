/- PROVED: De Df Dg Dh Di Dj. No more condition. -/
import Derived.Test.YteecfjhjllajlaaGreatDoorI41
set_option maxHeartbeats 8000000
set_option maxRecDepth 100000
namespace Go.Proofs.YteecfjhjllajlaaGreatDoor
section
open Go Go.RowKit Go.Sort
open Tr (Bx heap1 bt Nds Ints VPost BPost rgB par par_yes par_root par_node paL kidsAt IsPost)
theorem own_regrown {base n:Nat}{v:Value}{xs:List Value}{w:World}(h:w.ownsRow base 3 1 v n xs)(d:Nat)(os:Array Obj):(grow (redrawn w d) os).ownsRow base 3 1 v n xs:=by
 have hb:=below_regrown w d os
 refine⟨h.1,h.2.imp id ?_⟩
 rintro⟨g,cap,cur,h1,h2,h3,h4⟩
 refine⟨g,cap,cur,h1,h2,?_,h4⟩
 have:=(Array.getElem?_eq_some_iff.1 h3).1
 exact(hb.block g this).trans h3
section
variable {K:Act→World→Prop} {Q:Exit→Act→World→Prop} {a:Act} {w:World} {o:Oper}
theorem assign_wp {x:Operand}{v:Value}(ho:o.op = .assign x)(hx:a.eval x=v)(h:K (a.put o.dst v) w):o.wp Tryz.prog a w K Q:=by
 unfold Oper.wp execOp
 simp only[ho,hx]
 simp[go_sem]
 exact h
end
section
variable {w:World} {l:List Tr.Nd} {A:Option Addr} {n:Nat} {r:Int}
def kdT (l:List Tr.Nd)(p:Nat)(nm:ByteArray):Int:=match dnA l p nm with|none=>0 |some d=>(ndA l d).n
theorem means_any (h:RT w A n l r)(c p:Nat)(nm:ByteArray)(hp:p<n):Calls Tryz.prog 90 #[.agg #[.slice A n c,.int .i64 r],.int .i64 (p:Int),.string nm] w (Tr.IPost (optZ (dnA l p nm)) w):=by
 have hb0:=heap1 w (.cells #[.slice A n c,.int .i64 r] 25)
 have HX:=Lib.hid (Bx.new w 25 [.slice A n c,.int .i64 r])
 have HB0:=Lib.hid hb0
 have HT:=Lib.hid (h.below hb0)
 obtain⟨W0,hW0⟩:∃W0,w.alloc (.cells #[.slice A n c,.int .i64 r] 25)=W0:=⟨_,rfl⟩
 rw[hW0]at HX HB0 HT
 clear h hb0
 have HO:=Lib.hid (rowner_any HT.out c p hp)
 have a0:=(HX.out.cell 0).trans rfl
 have a1:=(HX.out.cell 1).trans rfl
 have HLN:=Lib.hid HT.out.tt.len
 rcases owA_range l p with e |⟨q,e,_,hq,hq3⟩
 ·rw[e]at HO
  rw[dn_no e,show optZ none = -1 from rfl]
  clear e
  go_enter Tryz.func90,Tryz.ntmps90
  go_wp2_with (go_at_call 88;refine HO.out.mono ?_)
  rintro e w1 ⟨rfl,hb1⟩
  have HB1:=Lib.hid (bt HB0.out hb1)
  clear hb1
  go_wp2
  go_ret
  exact⟨rfl,HB1.out⟩
 ·obtain⟨b,hRT⟩:=HT.out.rtn
  have hm:=hRT.mean e nm
  have hroot:=HT.out.root
  have hlen:=hRT.len
  rw[← hroot]at hm
  have hqn:q<n:=by rw[HLN.out];exact hq
  have HF1:=Lib.hid (λW (k:Below W0.heap.size W0 W)=>of_any (HT.out.below k) c q hqn 4 5 nm)
  have hF2:=λW (k:Below W0.heap.size W0 W)=>of_any (HT.out.below k) c (l.length-1) (by rw[HLN.out];omega) 2 2 nm
  rw[← hroot]at hF2
  have HF2:=Lib.hid hF2
  have hq0:¬(q:Int)<0:=by omega
  rw[e]at HO
  rw[hm]
  clear e hm hRT hroot hlen hF2 hq hq3
  generalize ofA l q 4 5 nm=d1 at *
  generalize ofA l r 2 2 nm=d2 at *
  by_cases hd:d1<0
  ·rw[if_pos hd]
   go_enter Tryz.func90,Tryz.ntmps90
   go_wp2_with (go_at_call 88;refine HO.out.mono ?_)
   rintro e w1 ⟨rfl,hb1⟩
   have HB1:=Lib.hid hb1
   have b0:=((HX.out.below hb1 HX.out.lt).cell 0).trans rfl
   have b1:=((HX.out.below hb1 HX.out.lt).cell 1).trans rfl
   clear hb1 a0 a1
   go_wp2_with (go_at_call 85;refine(HF1.out _ HB1.out).mono ?_)
   rintro e w2 ⟨rfl,hb2⟩
   have hb3:=bt HB1.out hb2
   have HB2:=Lib.hid hb3
   clear b0 b1
   have b0:=((HX.out.below hb3 HX.out.lt).cell 0).trans rfl
   have b1:=((HX.out.below hb3 HX.out.lt).cell 1).trans rfl
   clear hb2 hb3
   go_wp2_with (go_at_call 85;refine(HF2.out _ HB2.out).mono ?_)
   rintro e w3 ⟨rfl,hb4⟩
   have HB3:=Lib.hid (bt HB0.out (bt HB2.out hb4))
   clear hb4
   go_wp2
   go_ret
   exact⟨rfl,HB3.out⟩
  ·rw[if_neg hd]
   go_enter Tryz.func90,Tryz.ntmps90
   go_wp2_with (go_at_call 88;refine HO.out.mono ?_)
   rintro e w1 ⟨rfl,hb1⟩
   have HB1:=Lib.hid hb1
   have b0:=((HX.out.below hb1 HX.out.lt).cell 0).trans rfl
   have b1:=((HX.out.below hb1 HX.out.lt).cell 1).trans rfl
   clear hb1 a0 a1
   go_wp2_with (go_at_call 85;refine(HF1.out _ HB1.out).mono ?_)
   rintro e w2 ⟨rfl,hb2⟩
   have HB2:=Lib.hid (bt HB0.out (bt HB1.out hb2))
   clear hb2
   go_wp2
   go_ret
   exact⟨rfl,HB2.out⟩
theorem kind_any (h:RT w A n l r)(c p:Nat)(nm:ByteArray)(hp:p<n):Calls Tryz.prog 156 #[.agg #[.slice A n c,.int .i64 r],.int .i64 (p:Int),.string nm] w (Tr.IPost (kdT l p nm) w):=by
 have hb0:=heap1 w (.cells #[.slice A n c,.int .i64 r] 25)
 have HX:=Lib.hid (Bx.new w 25 [.slice A n c,.int .i64 r])
 have HB0:=Lib.hid hb0
 have HT:=Lib.hid (h.below hb0)
 obtain⟨W0,hW0⟩:∃W0,w.alloc (.cells #[.slice A n c,.int .i64 r] 25)=W0:=⟨_,rfl⟩
 rw[hW0]at HX HB0 HT
 clear h hb0
 have HM:=Lib.hid (means_any HT.out c p nm hp)
 have a0:=(HX.out.cell 0).trans rfl
 have a1:=(HX.out.cell 1).trans rfl
 have HLN:=Lib.hid HT.out.tt.len
 unfold kdT
 cases e:dnA l p nm with
 |none=>
  rw[e,show optZ none = -1 from rfl]at HM
  clear e
  go_enter Tryz.func156,Tryz.ntmps156
  go_wp2_with (go_at_call 90;refine HM.out.mono ?_)
  rintro e w1 ⟨rfl,hb1⟩
  have HB1:=Lib.hid (bt HB0.out hb1)
  clear hb1
  go_wp2
  go_ret
  exact⟨rfl,HB1.out⟩
 |some d=>
  have hd:=(dnA_lt e).1
  have hdn:d<n:=by rw[HLN.out];exact hd
  have hdz:(d:Int)<(n:Int):=by omega
  have hd0:¬(d:Int)<0:=by omega
  rw[e,show optZ (some d)=(d:Int)from rfl]at HM
  show Calls _ _ _ _ (Tr.IPost (ndA l d).n w)
  clear e hd
  go_enter Tryz.func156,Tryz.ntmps156
  go_wp2_with (go_at_call 90;refine HM.out.mono ?_)
  rintro e w1 ⟨rfl,hb1⟩
  have HB1:=Lib.hid (bt HB0.out hb1)
  have b0:=((HX.out.below hb1 HX.out.lt).cell 0).trans rfl
  obtain⟨bA,off,K,cK,rfl,xt,x0,x1,_⟩:=(HT.out.below hb1).node hdn
  clear hb1 a0 a1 x0 HT HM
  generalize (ndA l (d:Int)).n=dv at *
  go_wp2
  go_ret
  exact⟨rfl,HB1.out⟩
theorem params_any (h:RT w A n l r)(c p:Nat)(hp:p<n):Calls Tryz.prog 86 #[.agg #[.slice A n c,.int .i64 r],.int .i64 (p:Int)] w (IsPost (sgP l p) w):=by
 obtain⟨i0,hi,hz0,hz1,hz2⟩:=info_parts info3
 have hb0:=heap1 w (.cells #[.slice A n c,.int .i64 r] 25)
 have HX:=Lib.hid (Bx.new w 25 [.slice A n c,.int .i64 r])
 have HB0:=Lib.hid hb0
 have HT:=Lib.hid (h.below hb0)
 obtain⟨W0,hW0⟩:∃W0,w.alloc (.cells #[.slice A n c,.int .i64 r] 25)=W0:=⟨_,rfl⟩
 rw[hW0]at HX HB0 HT
 clear h hb0
 obtain⟨bA,off,K,cK,rfl,xt,x0,x1,x2,x3,x4,xI⟩:=HT.out.node hp
 have HK:=Lib.hid xI
 obtain⟨m,hm⟩:∃m,m=(ndA l p).ks.length:=⟨_,rfl⟩
 have HM:=Lib.hid hm
 have hm4:m≤4000:=by rw[hm,ndA_eq (show p<l.length by rw[← HT.out.tt.len];exact hp)];exact HT.out.tt.kids _ (List.getElem_mem _)
 rw[← hm]at x4
 have a0:=(HX.out.cell 0).trans rfl
 have hpz:(p:Int)<(n:Int):=by omega
 clear x0 x1 x2 x3 xI hm
 show Calls _ _ _ _ (IsPost (sgX l (ndA l p).ks) w)
 go_enter Tryz.func86,Tryz.ntmps86
 go_wp2
 go_loopw [5,7] (λv5 i wr=>∃(j:Nat),j≤m∧i = .int .i64 (j:Int)∧Below W0.heap.size W0 wr∧wr.ownsRow W0.heap.size 3 1 v5 (sgX l ((ndA l p).ks.take j)).length ((sgX l ((ndA l p).ks.take j)).map (Value.int .i64))) (λ_ i _=>m-(intOf i).toNat)
 case atStart=>exact⟨0,Nat.zero_le _,rfl,Below.refl _ _,World.ownsRow_nil _ _ _ _⟩
 case round=>
  obtain⟨j,hj,rfl,hb,ho⟩:=hrel
  have HB:=Lib.hid hb
  obtain⟨W1,rfl⟩:∃W1,W1=wr:=⟨_,rfl⟩
  by_cases hjm:j<m
  ·have hjz:(j:Int)<(m:Int):=by omega
   have hjk:j<(ndA l p).ks.length:=by rw[← HM.out];exact hjm
   obtain⟨bK,oK,rfl,hbK,hcK⟩:=HK.out (by omega)
   obtain⟨k2,hke,hk2⟩:=HT.out.kid hp hjk
   have hk2n:k2<n:=by omega
   have hk2z:(k2:Int)<(n:Int):=by omega
   have hck0:=hcK j hjk
   rw[hke]at hck0
   obtain⟨bB,off2,K2,cK2,e3,yt,y0,y1,_⟩:=HT.out.node hk2n
   cases e3
   have HST:=Lib.hid (sgX_step l hjk)
   rw[hke]at HST
   have HXL:=Lib.hid (show(sgX l ((ndA l p).ks.take j)).length≤4000 from Nat.le_trans (sgX_len l _) (by rw[List.length_take];omega))
   obtain⟨xs,hxs⟩:∃xs,xs=sgX l ((ndA l p).ks.take j):=⟨_,rfl⟩
   rw[← hxs]at ho HST HXL
   obtain⟨VL,cL,rfl,_⟩:=own_ints ho
   have HO:=Lib.hid ho
   have a0:=((HX.out.below hb HX.out.lt).cell 0).trans rfl
   have ck:=(hb.cell (p:=⟨bK,oK+j,none⟩) hbK).trans hck0
   have ckd:=(hb.cell (p:=⟨bA,off+k2*5,none⟩) yt).trans y0
   have HY:=Lib.hid (And.intro hck0 y1)
   clear hcK hke hxs ho hb hck0 y0 y1
   have s0:=cell_regrown a0
   have s1:=cell_regrown ck
   have s2:=cell_regrown ckd
   clear a0 ck ckd
   go_upto_region 6 with(fail)
   refine wp_region_quiet_below (by kernel_rfl) (by kernel_rfl) ?_
   repeat (go_big_quiet_step (first|fail))
   refine wpQuiet_nil ?_
   intro _ hw'
   obtain⟨⟨dq,osq⟩,hw''⟩:=hw'
   subst hw''
   have hbq:=below_regrown W1 dq osq
   have hoq:(grow (redrawn W1 dq) osq).ownsRow W0.heap.size 3 1 (.slice VL xs.length cL) xs.length (xs.map (Value.int .i64)):=own_regrown HO.out dq osq
   generalize grow (redrawn W1 dq) osq=W4 at *
   have HB4:=Lib.hid (HB.out.trans (hbq.mono HB.out.size))
   have HO4:=Lib.hid hoq
   clear s0 s1 s2 hbq hoq
   by_cases hk4:(ndA l (k2:Int)).kd=4
   ·rw[if_pos hk4]at HST
    rw[hk4]
    clear hk4
    generalize (ndA l (k2:Int)).n=kn at *
    have hxl:=HXL.out
    have HY2:=HY.out
    go_upto_region 7 with(fail)
    have hS:Below W0.heap.size W0 { W4 with drawn:=W4.drawn+1 }:=Tr.bdrew HB4.out
    have hO:=own_drew HO4.out
    refine wp_region_held (S:=λw'=>Below W0.heap.size W0 w') (by kernel_rfl) ?_
    generalize ({ W4 with drawn:=W4.drawn+1 }:World)=W5 at *
    refine hpu 0 (.slice VL xs.length cL) (by kernel_rfl) rfl rfl (λ_ _ _ h=>h) rfl (y_move rfl rfl) hS ?_
    simp only[ap]
    refine hpu 1 (.pointer (some ⟨w.heap.size,0,none⟩)) (by kernel_rfl) rfl rfl (λ_ _ _ h=>h) rfl (y_field rfl rfl (run_field25_0 _)) hS ?_
    simp only[ap]
    refine hpu 2 (.slice (some ⟨bA,off,none⟩) n c) (by kernel_rfl) rfl rfl (λ_ _ _ h=>h) rfl (y_load rfl rfl (λw' q=>run_load23s (((HX.out.below q HX.out.lt).cell 0).trans rfl))) hS ?_
    simp only[ap]
    refine hpu 3 (.slice (some ⟨bK,oK,none⟩) m cK) (by kernel_rfl) rfl rfl (λ_ _ _ h=>h) rfl (y_move rfl rfl) hS ?_
    simp only[ap]
    refine hpu 4 (.int .i64 (j:Int)) (by kernel_rfl) rfl rfl (λ_ _ _ h=>h) rfl (y_move rfl rfl) hS ?_
    simp only[ap]
    refine hpu 5 (.pointer (some ⟨bK,oK+j,none⟩)) (by kernel_rfl) rfl rfl (λ_ _ _ h=>h) rfl (y_index rfl rfl rfl (λw=>run_index35 bK oK m cK j hjm w)) hS ?_
    simp only[ap]
    refine hpu 6 (.int .i64 (k2:Int)) (by kernel_rfl) rfl rfl (λ_ _ _ h=>h) rfl (y_load rfl rfl (λw' q=>run_load3s ((q.cell (p:=⟨bK,oK+j,none⟩) hbK).trans HY2.1))) hS ?_
    simp only[ap]
    refine hpu 7 (.pointer (some ⟨bA,off+k2*5,none⟩)) (by kernel_rfl) rfl rfl (λ_ _ _ h=>h) rfl (y_index rfl rfl rfl (λw=>run_index23 bA off n c k2 hk2n w)) hS ?_
    simp only[ap]
    refine hpu 8 (.pointer (some ⟨bA,off+k2*5+1,none⟩)) (by kernel_rfl) rfl rfl (λ_ _ _ h=>h) rfl (y_field rfl rfl (run_field37_1g _ _)) hS ?_
    simp only[ap]
    refine hpu 9 (.int .i64 kn) (by kernel_rfl) rfl rfl (λ_ _ _ h=>h) rfl (y_load rfl rfl (λw' q=>run_load3s ((q.cell (p:=⟨bA,off+k2*5+1,none⟩) yt).trans HY2.2))) hS ?_
    simp only[ap]
    refine h_one 10 _ rfl (by kernel_rfl) rfl ?_
    have hSa:=hS.alloc hS.size (.cells #[.int .i64 kn] 3)
    refine slice1 rfl rfl ⟨hSa,?_⟩
    simp only[Act.put,List.setIfInBounds_toArray]
    refine h_one 11 _ rfl (by kernel_rfl) rfl ?_
    refine wp_append_own2 (W5.alloc (.cells #[.int .i64 kn] 3)) _ _ 35 rfl W0.heap.size 3 i0 (.int .i64 0) 1 8 Tryz.underlying35 hi hz0 hz1 hz2 rfl (by decide) (.slice VL xs.length cL) xs.length (xs.map (Value.int .i64)) rfl (hO.kept (row:=none) (World.grownBy_alloc _ _ _) (Classical.em _)) ⟨W5.heap.size,0,none⟩ 1 1 [.int .i64 kn] rfl rfl (blk_cells W5 [.int .i64 kn] 3) (λu hu=>by rw[List.mem_singleton.1 hu];rfl) (by unfold maxLen;omega) (by omega) (by rw[World.size_alloc];have:=hS.size;omega) ?_
    intro v' w4 hown4 hgrow4 _
    have hown5:w4.ownsRow W0.heap.size 3 1 v' (xs++[kn]).length ((xs++[kn]).map (Value.int .i64)):=by rw[List.length_append,List.map_append];exact hown4
    have hS4:Below W0.heap.size W0 w4:=hSa.grown hgrow4 hSa.size (λk e=>(hO.lt k e).1)
    refine⟨hS4,?_⟩
    simp only[Act.put]
    refine h_one 12 _ rfl (by kernel_rfl) rfl ?_
    refine assign_wp rfl rfl ⟨hS4,?_⟩
    simp only[Act.put]
    refine wpAnyH_done (by kernel_rfl) ?_ _
    have HH:=Lib.hid (And.intro hS4 hown5)
    clear hS hO hown4 hown5 hgrow4 hS4 hSa
    go_wp2
    go_roundw
    case rel=>exact⟨j+1,by omega,by go_num,HH.out.1,by rw[HST.out];exact HH.out.2⟩
    case measure=>simp[intOf];omega
   ·have hk4':((ndA l (k2:Int)).kd==4)=false:=beq_eq_false_iff_ne.2 hk4
    rw[if_neg hk4,List.append_nil]at HST
    clear hk4
    generalize (ndA l (k2:Int)).kd=kk at *
    go_wp2
    go_roundw
    case rel=>exact⟨j+1,by omega,by go_num,HB4.out,by rw[HST.out];exact HO4.out⟩
    case measure=>simp[intOf];omega
  ·have hjz:¬(j:Int)<(m:Int):=by omega
   have hall:(ndA l p).ks.take j=(ndA l p).ks:=List.take_of_length_le (by have:=HM.out;omega)
   rw[hall]at ho
   obtain⟨VL,cL,rfl,hints⟩:=own_ints ho
   have HH:=Lib.hid hints
   clear ho hints hall hb
   generalize sgX l (ndA l p).ks=xs at *
   go_wp2
   go_ret
   exact⟨VL,cL,rfl,HH.out,bt HB0.out HB.out⟩
theorem rplain_any (h:RT w A n l r)(c p:Nat)(hp:p<n):Calls Tryz.prog 93 #[.agg #[.slice A n c,.int .i64 r],.int .i64 (p:Int)] w (BPost (plnB l p) w):=by
 have hb0:=heap1 w (.cells #[.slice A n c,.int .i64 r] 25)
 have HX:=Lib.hid (Bx.new w 25 [.slice A n c,.int .i64 r])
 have HB0:=Lib.hid hb0
 have HT:=Lib.hid (h.below hb0)
 obtain⟨W0,hW0⟩:∃W0,w.alloc (.cells #[.slice A n c,.int .i64 r] 25)=W0:=⟨_,rfl⟩
 rw[hW0]at HX HB0 HT
 clear h hb0
 have HP:=Lib.hid (params_any HT.out c p hp)
 have a0:=(HX.out.cell 0).trans rfl
 have a1:=(HX.out.cell 1).trans rfl
 have hpz:(p:Int)<(n:Int):=by omega
 unfold plnB
 generalize sgP l p=xs at *
 go_enter Tryz.func93,Tryz.ntmps93
 go_wp2_with (go_at_call 86;refine HP.out.mono ?_)
 rintro e w1 ⟨S,cS,rfl,hS,hb1⟩
 have HB1:=Lib.hid (bt HB0.out hb1)
 have b0:=((HX.out.below hb1 HX.out.lt).cell 0).trans rfl
 obtain⟨bA,off,K,cK,rfl,xt,x0,x1,_⟩:=(HT.out.below hb1).node hp
 clear hb1 a0 a1 x0 HT HP
 generalize (ndA l (p:Int)).n=pn at *
 by_cases hl:xs.length=1
 ·obtain⟨x,rfl⟩:=len_one hl
  obtain⟨bS,oS,rfl,_,hcS⟩:=hS (by simp)
  have s0:w1.cell? ⟨bS,oS,none⟩=some (.int .i64 x):=hcS 0 (by simp)
  clear hS hcS hl
  have hl1:(([x]:List Int).length)=1:=rfl
  rw[hl1]
  by_cases hx:x=1
  ·subst hx
   by_cases hpn:pn=1
   ·subst hpn
    go_wp2
    go_ret
    exact⟨rfl,HB1.out⟩
   ·have h2:(pn==1)=false:=beq_eq_false_iff_ne.2 hpn
    have h3:(decide (([1]:List Int)=[1])&&decide (pn=1))=false:=by rw[decide_eq_false hpn];rfl
    have HV:=Lib.hid h3
    clear hpn h3
    go_wp2
    go_ret
    exact⟨by rw[HV.out];try rfl,HB1.out⟩
  ·have h2:(x==1)=false:=beq_eq_false_iff_ne.2 hx
   have h3:(decide (([x]:List Int)=[1])&&decide (pn=1))=false:=by rw[decide_eq_false (by simp[hx])];rfl
   have HV:=Lib.hid h3
   clear hx h3
   go_wp2
   go_ret
   exact⟨by rw[HV.out];try rfl,HB1.out⟩
 ·have h3:(decide (xs=[1])&&decide (pn=1))=false:=by
   rw[decide_eq_false (λe=>hl (by rw[e];rfl))];rfl
  have HV:=Lib.hid h3
  have h2:((xs.length:Int)==1)=false:=beq_eq_false_iff_ne.2 (by omega)
  clear hS hl h3
  generalize xs.length=m at *
  go_wp2
  go_ret
  exact⟨by rw[HV.out];try rfl,HB1.out⟩
end
end
section
open Go Go.RowKit Go.Sort
open Tr (Bx heap1 bt Nds Ints VPost BPost rgB par par_yes par_root par_node paL kidsAt IsPost)
def Strs (w:World)(A:Option Addr)(xs:List ByteArray):Prop:=
 0<xs.length→∃b off,A=some ⟨b,off,none⟩∧b<w.heap.size∧∀j (hj:j<xs.length),w.cell? ⟨b,off+j,none⟩=some (.string xs[j])
theorem Strs.below {w w':World}{A:Option Addr}{xs:List ByteArray}(h:Strs w A xs)(hb:Below w.heap.size w w'):Strs w' A xs:=λh0=>by
 obtain⟨b,off,e,hl,hc⟩:=h h0
 exact⟨b,off,e,Nat.lt_of_lt_of_le hl hb.size,λj hj=>(hb.cell (p:=⟨b,off+j,none⟩) hl).trans (hc j hj)⟩
theorem strs_new (w:World)(xs:List ByteArray):Strs (w.alloc (.cells (xs.map Value.string).toArray 9)) (some ⟨w.heap.size,0,none⟩) xs:=λ_=>
 ⟨w.heap.size,0,rfl,(Bx.new w 9 (xs.map Value.string)).lt,λj hj=>by
  have:=(Bx.new w 9 (xs.map Value.string)).cell j
  rw[Nat.zero_add,this]
  simp[hj]⟩
theorem among_any {w:World}{A:Option Addr}{n c:Nat}(xs:List ByteArray)(s:ByteArray)(hS:Strs w A xs)(hn:n=xs.length)(hn4:n≤100):Calls Tryz.prog 98 #[.slice A n c,.string s] w (BPost (xs.any λx=>decide (x=s)) w):=by
 have HS:=Lib.hid hS
 have HN:=Lib.hid hn
 clear hS hn
 go_enter Tryz.func98,Tryz.ntmps98
 go_wp2
 go_loop [5] (λv=>∃j:Nat,v = .int .i64 (j:Int)∧j≤n∧∀x ∈ xs.take j,x≠s) (λv=>n-(intOf v).toNat)
 case atStart=>exact⟨0,rfl,Nat.zero_le _,λx hx=>by simp at hx⟩
 case round=>
  obtain⟨j,rfl,hj,hno⟩:=hrel
  have HNO:=Lib.hid hno
  clear hno
  by_cases hjn:j<n
  ·have hjz:(j:Int)<(n:Int):=by omega
   have hjx:j<xs.length:=by rw[← HN.out];exact hjn
   obtain⟨b,off,rfl,hb,hc⟩:=HS.out (by omega)
   have hcj:=hc j hjx
   clear hc hb
   by_cases e:xs[j]=s
   ·have HF:=Lib.hid (show(xs.any λx=>decide (x=s))=true from List.any_eq_true.2 ⟨xs[j],List.getElem_mem hjx,decide_eq_true e⟩)
    rw[e]at hcj
    have hse:=str_eq s
    clear e
    go_wp2
    go_ret
    exact⟨by rw[HF.out];try rfl,Below.refl _ _⟩
   ·have hse:=str_ne e
    have HF:=Lib.hid (show∀x ∈ xs.take (j+1),x≠s from λx hx=>by
     rw[List.take_succ_eq_append_getElem hjx]at hx
     rcases List.mem_append.1 hx with hx |hx
     ·exact HNO.out x hx
     ·rw[List.mem_singleton.1 hx];exact e)
    generalize xs[j]=x at *
    clear e
    go_wp2
    go_round
    case rel=>exact⟨j+1,by go_num,by omega,HF.out⟩
    case measure=>simp[intOf];omega
  ·obtain rfl:j=n:=by omega
   have hjz:¬(j:Int)<(j:Int):=by omega
   have HF:=Lib.hid (show(xs.any λx=>decide (x=s))=false from by
    have h5:=HNO.out
    rw[List.take_of_length_le (by rw[← HN.out];exact Nat.le_refl _)]at h5
    rw[List.any_eq_false]
    intro x hx
    rw[decide_eq_false (h5 x hx)];decide)
   go_wp2
   go_ret
   exact⟨by rw[HF.out];try rfl,Below.refl _ _⟩
section
variable {w:World} {l:List Tr.Nd} {A:Option Addr} {n:Nat} {r:Int}
theorem sgn_any (tx:ByteArray):sgnT tx=if (([⟨#[43]⟩,⟨#[45]⟩,⟨#[42]⟩,⟨#[47]⟩,⟨#[37]⟩]:List ByteArray).any λx=>decide (x=tx)) then 1 else 2:=by
 unfold sgnT
 by_cases h:tx=⟨#[43]⟩∨tx=⟨#[45]⟩∨tx=⟨#[42]⟩∨tx=⟨#[47]⟩∨tx=⟨#[37]⟩
 ·rw[if_pos h,if_pos (by
   rw[List.any_eq_true]
   rcases h with h |h |h |h |h<;>subst h
   ·exact⟨_,.head _,decide_eq_true rfl⟩
   ·exact⟨_,.tail _ (.head _),decide_eq_true rfl⟩
   ·exact⟨_,.tail _ (.tail _ (.head _)),decide_eq_true rfl⟩
   ·exact⟨_,.tail _ (.tail _ (.tail _ (.head _))),decide_eq_true rfl⟩
   ·exact⟨_,.tail _ (.tail _ (.tail _ (.tail _ (.head _)))),decide_eq_true rfl⟩)]
 ·rw[if_neg h,if_neg (by
   intro h2
   rw[List.any_eq_true]at h2
   obtain⟨x,hx,h3⟩:=h2
   have h4:=of_decide_eq_true h3
   subst h4
   simp at hx
   exact h hx)]
theorem typed_any (h:RT w A n l r)(c p:Nat)(hp:p<n):Calls Tryz.prog 95 #[.agg #[.slice A n c,.int .i64 r],.int .i64 (p:Int)] w (Tr.IPost (typA l p) w):=by
 have hb0:=heap1 w (.cells #[.slice A n c,.int .i64 r] 25)
 have HX:=Lib.hid (Bx.new w 25 [.slice A n c,.int .i64 r])
 have HB0:=Lib.hid hb0
 have HT:=Lib.hid (h.below hb0)
 obtain⟨W0,hW0⟩:∃W0,w.alloc (.cells #[.slice A n c,.int .i64 r] 25)=W0:=⟨_,rfl⟩
 rw[hW0]at HX HB0 HT
 clear h hb0
 obtain⟨bA,off,K,cK,rfl,xt,x0,x1,x2,x3,x4,_⟩:=HT.out.node hp
 have a0:=(HX.out.cell 0).trans rfl
 have a1:=(HX.out.cell 1).trans rfl
 have hpz:(p:Int)<(n:Int):=by omega
 have hb1:=heap1 W0 (.cells #[.int .i64 (ndA l p).kd,.int .i64 (ndA l p).n,.int .i64 (ndA l p).pl,.string (ndA l p).tx,.slice K (ndA l p).ks.length cK] 37)
 have HB1:=Lib.hid (bt HB0.out hb1)
 have HV:=Lib.hid (kind_any (HT.out.below hb1) c p (ndA l p).tx hp)
 have e0:=((HX.out.below hb1 HX.out.lt).cell 0).trans rfl
 have e1:=((HX.out.below hb1 HX.out.lt).cell 1).trans rfl
 have hN1:=Bx.new W0 37 [.int .i64 (ndA l p).kd,.int .i64 (ndA l p).n,.int .i64 (ndA l p).pl,.string (ndA l p).tx,.slice K (ndA l p).ks.length cK]
 obtain⟨W1,hW1⟩:∃W1,W0.alloc (.cells #[.int .i64 (ndA l p).kd,.int .i64 (ndA l p).n,.int .i64 (ndA l p).pl,.string (ndA l p).tx,.slice K (ndA l p).ks.length cK] 37)=W1:=⟨_,rfl⟩
 rw[hW1]at HB1 HV e0 e1 hN1 hb1
 have ek:=(hN1.cell 0).trans rfl
 have et:=(hN1.cell 3).trans rfl
 have et2:=((hN1.alloc (.cells #[.string ⟨#[43]⟩,.string ⟨#[45]⟩,.string ⟨#[42]⟩,.string ⟨#[47]⟩,.string ⟨#[37]⟩] 9)).cell 3).trans rfl
 have HS:=Lib.hid (show Calls Tryz.prog 98 #[.slice (some ⟨W1.heap.size,0,none⟩) 5 5,.string (ndA l p).tx] (W1.alloc (.cells #[.string ⟨#[43]⟩,.string ⟨#[45]⟩,.string ⟨#[42]⟩,.string ⟨#[47]⟩,.string ⟨#[37]⟩] 9)) (BPost (([⟨#[43]⟩,⟨#[45]⟩,⟨#[42]⟩,⟨#[47]⟩,⟨#[37]⟩]:List ByteArray).any λx=>decide (x=(ndA l (p:Int)).tx)) (W1.alloc (.cells #[.string ⟨#[43]⟩,.string ⟨#[45]⟩,.string ⟨#[42]⟩,.string ⟨#[47]⟩,.string ⟨#[37]⟩] 9)))from among_any (c:=5) [⟨#[43]⟩,⟨#[45]⟩,⟨#[42]⟩,⟨#[47]⟩,⟨#[37]⟩] (ndA l p).tx (strs_new W1 [⟨#[43]⟩,⟨#[45]⟩,⟨#[42]⟩,⟨#[47]⟩,⟨#[37]⟩]) (rfl:5=_) (by decide))
 have HSB:=Lib.hid (heap1 W1 (.cells #[.string ⟨#[43]⟩,.string ⟨#[45]⟩,.string ⟨#[42]⟩,.string ⟨#[47]⟩,.string ⟨#[37]⟩] 9))
 clear hb1 hN1
 rw[show kdT l p (ndA l p).tx=vrT l p from rfl]at HV
 have hsg:=sgn_any (ndA l p).tx
 generalize (([⟨#[43]⟩,⟨#[45]⟩,⟨#[42]⟩,⟨#[47]⟩,⟨#[37]⟩]:List ByteArray).any λx=>decide (x=(ndA l (p:Int)).tx))=sb at *
 unfold typA
 rw[hsg]
 clear hsg
 generalize (ndA l (p:Int)).kd=k at *
 generalize (ndA l (p:Int)).tx=tx at *
 generalize (ndA l (p:Int)).n=nn at *
 generalize (ndA l (p:Int)).pl=pl at *
 generalize (ndA l (p:Int)).ks.length=m at *
 generalize vrT l p=vt at *
 clear HT
 by_cases k20:k=20
 ·subst k20
  rw[if_pos (by decide)]
  clear HV HS HSB
  go_enter Tryz.func95,Tryz.ntmps95
  go_wp2
  go_ret
  exact⟨rfl,HB1.out⟩
 have f20:(k==20)=false:=beq_eq_false_iff_ne.2 k20
 by_cases k23:k=23
 ·subst k23
  rw[if_pos (by decide)]
  clear HV HS HSB
  go_enter Tryz.func95,Tryz.ntmps95
  go_wp2
  go_ret
  exact⟨rfl,HB1.out⟩
 have f23:(k==23)=false:=beq_eq_false_iff_ne.2 k23
 by_cases k24:k=24
 ·subst k24
  rw[if_pos (by decide)]
  clear HV HS HSB
  go_enter Tryz.func95,Tryz.ntmps95
  go_wp2
  go_ret
  exact⟨rfl,HB1.out⟩
 have f24:(k==24)=false:=beq_eq_false_iff_ne.2 k24
 rw[if_neg (by omega)]
 by_cases k21:k=21
 ·subst k21
  rw[if_pos rfl]
  clear HV HS HSB
  go_enter Tryz.func95,Tryz.ntmps95
  go_wp2
  go_ret
  exact⟨rfl,HB1.out⟩
 have f21:(k==21)=false:=beq_eq_false_iff_ne.2 k21
 rw[if_neg (by omega)]
 by_cases k22:k=22
 ·subst k22
  rw[if_pos rfl]
  clear HS HSB
  go_enter Tryz.func95,Tryz.ntmps95
  go_wp2_with (go_at_call 156;refine HV.out.mono ?_)
  rintro e w2 ⟨rfl,hb2⟩
  have HB2:=Lib.hid (bt HB1.out hb2)
  clear hb2
  go_wp2
  go_ret
  exact⟨rfl,HB2.out⟩
 have f22:(k==22)=false:=beq_eq_false_iff_ne.2 k22
 rw[if_neg (by omega)]
 by_cases k25:k=25
 ·subst k25
  rw[if_pos rfl]
  clear HV HS HSB
  go_enter Tryz.func95,Tryz.ntmps95
  go_wp2
  go_ret
  exact⟨rfl,HB1.out⟩
 have f25:(k==25)=false:=beq_eq_false_iff_ne.2 k25
 rw[if_neg (by omega)]
 by_cases k26:k=26
 ·subst k26
  rw[if_pos (by decide)]
  clear HV
  cases sb with
  |true=>
   rw[if_pos rfl]
   go_enter Tryz.func95,Tryz.ntmps95
   go_wp2_with (go_at_call 98;refine HS.out.mono ?_)
   rintro e w2 ⟨rfl,hb2⟩
   have HB2:=Lib.hid (bt HB1.out (bt HSB.out hb2))
   clear hb2
   go_wp2
   go_ret
   exact⟨rfl,HB2.out⟩
  |false=>
   rw[if_neg (by decide)]
   go_enter Tryz.func95,Tryz.ntmps95
   go_wp2_with (go_at_call 98;refine HS.out.mono ?_)
   rintro e w2 ⟨rfl,hb2⟩
   have HB2:=Lib.hid (bt HB1.out (bt HSB.out hb2))
   clear hb2
   go_wp2
   go_ret
   exact⟨rfl,HB2.out⟩
 have f26:(k==26)=false:=beq_eq_false_iff_ne.2 k26
 by_cases k27:k=27
 ·subst k27
  rw[if_pos (by decide)]
  clear HV
  cases sb with
  |true=>
   rw[if_pos rfl]
   go_enter Tryz.func95,Tryz.ntmps95
   go_wp2_with (go_at_call 98;refine HS.out.mono ?_)
   rintro e w2 ⟨rfl,hb2⟩
   have HB2:=Lib.hid (bt HB1.out (bt HSB.out hb2))
   clear hb2
   go_wp2
   go_ret
   exact⟨rfl,HB2.out⟩
  |false=>
   rw[if_neg (by decide)]
   go_enter Tryz.func95,Tryz.ntmps95
   go_wp2_with (go_at_call 98;refine HS.out.mono ?_)
   rintro e w2 ⟨rfl,hb2⟩
   have HB2:=Lib.hid (bt HB1.out (bt HSB.out hb2))
   clear hb2
   go_wp2
   go_ret
   exact⟨rfl,HB2.out⟩
 have f27:(k==27)=false:=beq_eq_false_iff_ne.2 k27
 rw[if_neg (by omega)]
 clear HV HS HSB k20 k23 k24 k21 k22 k25 k26 k27
 go_enter Tryz.func95,Tryz.ntmps95
 go_wp2
 go_ret
 exact⟨rfl,HB1.out⟩
theorem all_any (h:RT w A n l r)(c:Nat)(ks:List Int)(K:Option Addr)(m cK:Nat)(t:Int)(hK:Ints w K ks)(hm:m=ks.length)(hm4:m≤4000)(hks:∀k ∈ ks,∃q:Nat,k=(q:Int)∧q<n):Calls Tryz.prog 223 #[.agg #[.slice A n c,.int .i64 r],.slice K m cK,.int .i64 t] w (BPost (areB l ks t) w):=by
 have hK0:=hK.below (heap1 w (.cells #[.slice A n c,.int .i64 r] 25))
 have hb0:=heap1 w (.cells #[.slice A n c,.int .i64 r] 25)
 have HX:=Lib.hid (Bx.new w 25 [.slice A n c,.int .i64 r])
 have HB0:=Lib.hid hb0
 have HT:=Lib.hid (h.below hb0)
 obtain⟨W0,hW0⟩:∃W0,w.alloc (.cells #[.slice A n c,.int .i64 r] 25)=W0:=⟨_,rfl⟩
 rw[hW0]at HX HB0 HT hK0
 clear h hb0
 have HK:=Lib.hid hK0
 have HM:=Lib.hid hm
 have HKS:=Lib.hid hks
 clear hK hK0 hm hks
 go_enter Tryz.func223,Tryz.ntmps223
 go_wp2
 go_loopg [7] m (λg v wr=>∃j:Nat,v = .int .i64 (j:Int)∧j≤m∧g=m-j∧(∀k ∈ ks.take j,typA l k.toNat=t)∧Below W0.heap.size W0 wr)
 case atStart=>exact⟨0,rfl,Nat.zero_le _,rfl,λk hk=>by simp at hk,Below.refl _ _⟩
 case round=>
  obtain⟨j,rfl,hj,rfl,hok,hb⟩:=hrel
  have HB:=Lib.hid hb
  have HOK:=Lib.hid hok
  obtain⟨W1,rfl⟩:∃W1,W1=wr:=⟨_,rfl⟩
  clear hok
  by_cases hjm:j<m
  ·have hjz:(j:Int)<(m:Int):=by omega
   have hjk:j<ks.length:=by rw[← HM.out];exact hjm
   obtain⟨bK,oK,rfl,hbK,hcK⟩:=HK.out (by omega)
   obtain⟨q,hq,hqn⟩:=HKS.out _ (List.getElem_mem hjk)
   have hck:=(hb.cell (p:=⟨bK,oK+j,none⟩) hbK).trans (hcK j hjk)
   rw[hq]at hck
   have HTY:=Lib.hid (λW (k:Below W1.heap.size W1 W)=>typed_any (HT.out.below (bt hb k)) c q hqn)
   have HF:=Lib.hid (show∀x ∈ ks.take (j+1),x ∈ ks.take j∨x=(q:Int)from λx hx=>by
    rw[List.take_succ_eq_append_getElem hjk]at hx
    rcases List.mem_append.1 hx with hx |hx
    ·exact Or.inl hx
    ·rw[List.mem_singleton.1 hx];exact Or.inr hq)
   have HIN:=Lib.hid (show(q:Int) ∈ ks from hq▸List.getElem_mem hjk)
   have a0:=((HX.out.below hb HX.out.lt).cell 0).trans rfl
   have a1:=((HX.out.below hb HX.out.lt).cell 1).trans rfl
   clear hcK hq hb
   have s0:=cell_regrown a0
   have s1:=cell_regrown a1
   have s2:=cell_regrown hck
   have cq:∀d os,Calls Tryz.prog 95 #[.agg #[.slice A n c,.int .i64 r],.int .i64 (q:Int)] (grow (redrawn W1 d) os) λe w''=>e = .returned (.int .i64 (typA l q))∧∃p:Regrown,w''=grow (redrawn W1 p.d) p.os:=λd os=>Calls.regrown_of (HTY.out _ (below_regrown W1 d os))
   have HTQ:=Lib.hid (show typA l ((q:Int)).toNat=typA l q from rfl)
   clear a0 a1 hck HTY
   generalize typA l q=tq at *
   by_cases e:tq=t
   ·have h1:(tq != t)=false:=by simp[e]
    go_upto_region 4 with(fail)
    refine wp_region_quiet_below (by kernel_rfl) (by kernel_rfl) ?_
    repeat (go_big_quiet_step (first|exact cq _ _))
    refine wpQuiet_nil ?_
    intro _ hw'
    obtain⟨⟨dq,osq⟩,hw''⟩:=hw'
    subst hw''
    have hbq:=below_regrown W1 dq osq
    generalize grow (redrawn W1 dq) osq=W4 at *
    have HB4:=Lib.hid (HB.out.trans (hbq.mono HB.out.size))
    clear s0 s1 s2 hbq cq
    have HG:=Lib.hid (show∀x ∈ ks.take (j+1),typA l x.toNat=t from λx hx=>by
     rcases HF.out x hx with hx |hx
     ·exact HOK.out x hx
     ·rw[hx,HTQ.out];exact e)
    clear e
    go_wp2
    go_roundg (m-(j+1))
    case measure=>go_light;omega
    case rel=>
     go_light
     exact⟨j+1,by go_num,by omega,rfl,HG.out,HB4.out⟩
   ·have h1:(tq != t)=true:=by simp[e]
    have HG:=Lib.hid (show areB l ks t=false by
     unfold areB
     rw[List.all_eq_false]
     exact⟨_,HIN.out,by rw[HTQ.out,decide_eq_false e];decide⟩)
    clear e
    go_upto_region 4 with(fail)
    refine wp_region_quiet_below (by kernel_rfl) (by kernel_rfl) ?_
    repeat (go_big_quiet_step (first|exact cq _ _))
    refine wpQuiet_nil ?_
    intro _ hw'
    obtain⟨⟨dq,osq⟩,hw''⟩:=hw'
    subst hw''
    have hbq:=below_regrown W1 dq osq
    generalize grow (redrawn W1 dq) osq=W4 at *
    have HB4:=Lib.hid (HB.out.trans (hbq.mono HB.out.size))
    clear s0 s1 s2 hbq cq
    go_wp2
    go_ret
    exact⟨by rw[HG.out];try rfl,bt HB0.out HB4.out⟩
  ·obtain rfl:j=m:=by omega
   have hjz:¬(j:Int)<(j:Int):=by omega
   have HG:=Lib.hid (show areB l ks t=true by
    have h5:=HOK.out
    rw[List.take_of_length_le (by rw[← HM.out];exact Nat.le_refl _)]at h5
    unfold areB
    rw[List.all_eq_true]
    exact λx hx=>decide_eq_true (h5 x hx))
   clear hb
   go_wp2
   go_ret
   exact⟨by rw[HG.out];try rfl,bt HB0.out HB.out⟩
end
end
section
open Go Go.RowKit Go.Sort
open Tr (Bx heap1 bt Nds Ints VPost BPost rgB par par_yes par_root par_node paL kidsAt IsPost)
end
section
open Go Go.RowKit Go.Sort
open Tr (Bx heap1 bt Nds Ints VPost BPost rgB par par_yes par_root par_node paL kidsAt IsPost)
end
section
open Go Go.RowKit Go.Sort
open Tr (Bx heap1 bt Nds Ints VPost BPost rgB par par_yes par_root par_node paL kidsAt IsPost)
end
section
open Go Go.RowKit Go.Sort
open Tr (Bx heap1 bt Nds Ints VPost BPost rgB par par_yes par_root par_node paL kidsAt IsPost)
end
end Go.Proofs.YteecfjhjllajlaaGreatDoor
