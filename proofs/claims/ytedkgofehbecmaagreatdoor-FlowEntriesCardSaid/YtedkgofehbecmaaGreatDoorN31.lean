/- PROVED here: parts Ck Cl of the claim. No condition but those in each theorem's own head. -/
import Derived.Test.YtedkgofehbecmaaGreatDoorN30
import Derived.Test.YtedkgofehbecmaaGreatDoorN09
import Derived.Test.YtedkgofehbecmaaGreatDoorN24
namespace Go.Proofs.YtedkgofehbecmaaGreatDoor
open Go Go.RowKit Go.Sort
open Tr (Bx heap1 bt Nds Ints VPost BPost)
theorem y_not {S:World→Prop}{a:Act}{o:Oper}{x:Operand}{b:Bool}(ho:o.op = .unOp .not 4 x)(hx:a.eval x = .bool b):∀w,S w→(execOp a.eval o).run Tryz.prog w = .ok (.value (.bool (!b))) w:=fun w _=>by unfold execOp;simp only[ho,hx];simp[go_sem]
theorem own257:Own 261:=⟨_,Tryz.func261,by kernel_rfl,by kernel_rfl⟩
theorem own137:Own 223:=⟨_,Tryz.func223,by kernel_rfl,by kernel_rfl⟩
theorem run_field37_4b (b:Nat)(w:World):(Instr.fieldAt 50 (.pointer (some ⟨b,0,none⟩)) 4).run Tryz.prog w = .ok (.pointer (some ⟨b,4,none⟩)) w:=by kernel_rfl
theorem run_load35b {w:World}{b i n c:Nat}{A:Option Addr}(h:w.cell? ⟨b,i,none⟩=some (.slice A n c)):(Instr.loadAt 28 (.pointer (some ⟨b,i,none⟩))).run Tryz.prog w = .ok (.slice A n c) w:=by simp[go_sem,h]
section
variable {w:World} {l:List Tr.Nd} {A O:Option Addr} {n bd bp:Nat}
set_option maxRecDepth 100000 in
set_option maxHeartbeats 1500000 in
theorem fitsCall_any (h:Prg w l A n O bd bp)(hcp:Caps w A l)(c co p k:Nat)(hp:p<n)(hkd:(ndA l p).kd=13)(ks:List Int)(hks:(ndA l p).ks=(k:Int) :: ks)(hk:k<n)(hun:dnA l p (calN l p)≠none∨prF l (calN l p) 0≠none):Calls Tryz.prog 221 #[PrV A n c O co bd bp,.int .i64 (p:Int)] w (BPost (fitC l p) w):=by
 unfold PrV
 have xl:p<l.length:=by rw[← h.len];exact hp
 have xz:(p:Int)<(n:Int):=by omega
 obtain⟨bA,off,K,cK,rfl,xt,x0,x1,x2,x3,x4,xI⟩:=node_at h.nds (Below.refl _ w) p xl
 rw[← ndA_eq xl]at x0 x1 x2 x3 x4 xI
 have hb0:=heap1 w (.cells #[.slice (some ⟨bA,off,none⟩) n c,.slice O n co,.map (some bd),.map (some bp)] 87)
 obtain⟨bk,ok,rfl,hbk,hck⟩:=xI (by rw[hks];simp)
 have hb1:=bt hb0 (heap1 (w.alloc (.cells #[.slice (some ⟨bA,off,none⟩) n c,.slice O n co,.map (some bd),.map (some bp)] 87)) (.cells #[.int .i64 (ndA l p).kd,.int .i64 (ndA l p).n,.int .i64 (ndA l p).pl,.string (ndA l p).tx,.slice (some ⟨bk,ok,none⟩) (ndA l p).ks.length cK] 50))
 have HC:=Lib.hid (callee_any (h.below hb1) c co p k hp ks hks hk hun)
 have HV:=Lib.hid (fun W (hb:Below w.heap.size w W)=>variable_any (h.below hb) c co p hp)
 have hkr:=h.kr hp
 rw[hks]at hkr
 have hkm:=h.kl hp
 have HT:=Lib.hid (fun W (hb:Below w.heap.size w W) K m cK (hK:Ints W K ks) (hm:m=ks.length)=>typesOf_any (h.below hb) c co K m cK ks hK hm (fun x hx=>hkr x (List.mem_cons_of_mem _ hx)) (by rw[hks,List.length_cons]at hkm;omega))
 have hcc:(ndA l p).ks.length=ks.length+1:=by rw[hks];rfl
 have hcx:=hcp p bA off _ _ cK xl rfl x4 hkd
 have htl:(ndA l p).ks.tail=ks:=by rw[hks];rfl
 have hKI:∀j (hj:j<ks.length),w.cell? ⟨bk,ok+(j+1),none⟩=some (.int .i64 ks[j]):=fun j hj=>by
  have:=hck (j+1) (by rw[hks,List.length_cons];omega)
  rw[this]
  simp only[hks,List.getElem_cons_succ]
 unfold PrV at HC HV HT
 unfold fitC
 rw[htl]
 have e0:=(hb0.cell (p:=⟨bA,off+p*5,none⟩) xt).trans x0
 have e1:=(hb0.cell (p:=⟨bA,off+p*5+1,none⟩) xt).trans x1
 have e2:=(hb0.cell (p:=⟨bA,off+p*5+2,none⟩) xt).trans x2
 have e3:=(hb0.cell (p:=⟨bA,off+p*5+3,none⟩) xt).trans x3
 have e4:=(hb0.cell (p:=⟨bA,off+p*5+4,none⟩) xt).trans x4
 have hB1:Bx ((w.alloc (.cells #[.slice (some ⟨bA,off,none⟩) n c,.slice O n co,.map (some bd),.map (some bp)] 87)).alloc (.cells #[.int .i64 (ndA l p).kd,.int .i64 (ndA l p).n,.int .i64 (ndA l p).pl,.string (ndA l p).tx,.slice (some ⟨bk,ok,none⟩) (ndA l p).ks.length cK] 50)) w.heap.size 87 [.slice (some ⟨bA,off,none⟩) n c,.slice O n co,.map (some bd),.map (some bp)]∧Bx ((w.alloc (.cells #[.slice (some ⟨bA,off,none⟩) n c,.slice O n co,.map (some bd),.map (some bp)] 87)).alloc (.cells #[.int .i64 (ndA l p).kd,.int .i64 (ndA l p).n,.int .i64 (ndA l p).pl,.string (ndA l p).tx,.slice (some ⟨bk,ok,none⟩) (ndA l p).ks.length cK] 50)) (w.heap.size+1) 50 [.int .i64 (ndA l p).kd,.int .i64 (ndA l p).n,.int .i64 (ndA l p).pl,.string (ndA l p).tx,.slice (some ⟨bk,ok,none⟩) (ndA l p).ks.length cK]:=by
  have k2:=Bx.new (w.alloc (.cells #[.slice (some ⟨bA,off,none⟩) n c,.slice O n co,.map (some bd),.map (some bp)] 87)) 50 [.int .i64 (ndA l p).kd,.int .i64 (ndA l p).n,.int .i64 (ndA l p).pl,.string (ndA l p).tx,.slice (some ⟨bk,ok,none⟩) (ndA l p).ks.length cK]
  rw[World.size_alloc]at k2
  exact⟨(Bx.new w 87 _).alloc _,k2⟩
 have HYL:=Lib.hid (show∀my:Nat,my=(ks.map fun k=>typA l k.toNat).length→my≤100000 from fun my e=>by rw[e,List.length_map];rw[hks,List.length_cons]at hkm;omega)
 clear hks hkm
 clear h hk hun hkr htl hb0 hck xI x0 x1 x2 x3 x4 hp hcp xl
 generalize (ndA l (p:Int)).ks.length=m at *
 generalize (ndA l (p:Int)).tx=tx at *
 generalize (ndA l (p:Int)).kd=kd at *
 generalize (ndA l (p:Int)).n=nn at *
 generalize (ndA l (p:Int)).pl=pl at *
 generalize (calS l p).1.1=xs at *
 generalize (calS l p).1.2=rs at *
 generalize (calS l p).2=okb at *
 generalize vrT l p=vt at *
 generalize (ks.map fun k=>typA l k.toNat)=ys at *
 have HB1:=Lib.hid (And.intro hb1 hB1)
 have HM:=Lib.hid (And.intro hcc (And.intro (hcx) (And.intro hbk hKI)))
 clear hb1 hB1 hcc hcx hKI hkd
 obtain⟨R,hR⟩:∃R,R=(okb&&(decide (ys=xs)&&(decide (tx=⟨#[]⟩) || decide (vt=rs)))):=⟨_,rfl⟩
 rw[← hR]
 have HR:=Lib.hid hR
 clear hR
 go_enter Tryz.func221,Tryz.ntmps221
 go_wp2_with (go_at_call 260;refine HC.out.mono ?_)
 rintro e w2 ⟨VK,vc,rfl,hI2,hb2⟩
 obtain⟨mx,hmx⟩:∃mx,mx=xs.length:=⟨_,rfl⟩
 rw[← hmx]
 have hB3:=((HB1.out.2.1.below hb2 HB1.out.2.1.lt).alloc (.cells #[.slice VK mx vc,.int .i64 rs] 194))
 have hN3:=((HB1.out.2.2.below hb2 HB1.out.2.2.lt).alloc (.cells #[.slice VK mx vc,.int .i64 rs] 194))
 have hS3:=Bx.new w2 194 [.slice VK mx vc,.int .i64 rs]
 have hb3:=bt (bt HB1.out.1 hb2) (heap1 w2 (.cells #[.slice VK mx vc,.int .i64 rs] 194))
 have hI3:=hI2.below (heap1 w2 (.cells #[.slice VK mx vc,.int .i64 rs] 194))
 have H3:=Lib.hid (And.intro hB3 (And.intro hN3 (And.intro hS3 (And.intro hb3 (And.intro hI3 hmx)))))
 clear hI2 hb2 hmx hB3 hN3 hS3 hb3 hI3
 cases okb with
 |false=>
  go_upto_region 3 with(fail)
  go_quiet (fail)
  go_wp2
  go_ret
  exact⟨congrArg (fun z=>Ending.returned (Value.bool z)) (show false=R by rw[HR.out];rfl),Tk.below_drewN H3.out.2.2.2.1 _⟩
 |true=>
  obtain⟨yx,hyx⟩:∃yx,yx=decide (ys=xs):=⟨_,rfl⟩
  have HYX:=Lib.hid hyx
  clear hyx
  go_upto_region 3 with(fail)
  refine wp_region_held (S:=fun w'=>Below ({ w2.alloc (.cells #[.slice VK mx vc,.int .i64 rs] 194)with drawn:=(w2.alloc (.cells #[.slice VK mx vc,.int .i64 rs] 194)).drawn+1 }:World).heap.size ({ w2.alloc (.cells #[.slice VK mx vc,.int .i64 rs] 194)with drawn:=(w2.alloc (.cells #[.slice VK mx vc,.int .i64 rs] 194)).drawn+1 }:World) w') (by kernel_rfl) ?_
  have hB5:Bx ({ w2.alloc (.cells #[.slice VK mx vc,.int .i64 rs] 194)with drawn:=(w2.alloc (.cells #[.slice VK mx vc,.int .i64 rs] 194)).drawn+1 }:World) w.heap.size 87 [.slice (some ⟨bA,off,none⟩) n c,.slice O n co,.map (some bd),.map (some bp)]:=H3.out.1
  have hN5:Bx ({ w2.alloc (.cells #[.slice VK mx vc,.int .i64 rs] 194)with drawn:=(w2.alloc (.cells #[.slice VK mx vc,.int .i64 rs] 194)).drawn+1 }:World) (w.heap.size+1) 50 [.int .i64 kd,.int .i64 nn,.int .i64 pl,.string tx,.slice (some ⟨bk,ok,none⟩) m cK]:=H3.out.2.1
  have hS5:Bx ({ w2.alloc (.cells #[.slice VK mx vc,.int .i64 rs] 194)with drawn:=(w2.alloc (.cells #[.slice VK mx vc,.int .i64 rs] 194)).drawn+1 }:World) w2.heap.size 194 [.slice VK mx vc,.int .i64 rs]:=H3.out.2.2.1
  have hb5:Below w.heap.size w ({ w2.alloc (.cells #[.slice VK mx vc,.int .i64 rs] 194)with drawn:=(w2.alloc (.cells #[.slice VK mx vc,.int .i64 rs] 194)).drawn+1 }:World):=bdrew H3.out.2.2.2.1
  have hI5:Ints ({ w2.alloc (.cells #[.slice VK mx vc,.int .i64 rs] 194)with drawn:=(w2.alloc (.cells #[.slice VK mx vc,.int .i64 rs] 194)).drawn+1 }:World) VK xs:=H3.out.2.2.2.2.1
  have hmx:=H3.out.2.2.2.2.2
  generalize ({ w2.alloc (.cells #[.slice VK mx vc,.int .i64 rs] 194)with drawn:=(w2.alloc (.cells #[.slice VK mx vc,.int .i64 rs] 194)).drawn+1 }:World)=W5 at *
  have hS:=Below.refl W5.heap.size W5
  obtain⟨ok2,hok2⟩:∃ok2,(if cK=1 then ok else ok+1)=ok2:=⟨_,rfl⟩
  have hKs:Ints W5 (some ⟨bk,ok2,none⟩) ks:=fun h0=>⟨bk,_,rfl,Nat.lt_of_lt_of_le HM.out.2.2.1 hb5.size,fun j hj=>by
   have h2:cK≠1:=HM.out.2.1 (by have:=HM.out.1;omega)
   rw[if_neg h2]at hok2
   rw[← hok2,show ok+1+j=ok+(j+1)by omega]
   exact(hb5.cell (p:=⟨bk,ok+(j+1),none⟩) HM.out.2.2.1).trans (HM.out.2.2.2 j hj)⟩
  have h1m:1≤m:=by have:=HM.out.1;omega
  have hmk:m-1=ks.length:=by have:=HM.out.1;omega
  refine hpu 0 (.bool true) (by kernel_rfl) rfl rfl (fun _ _ _ h=>h) rfl (y_move rfl rfl) hS ?_
  simp only[ap]
  refine hpu 1 (.bool false) (by kernel_rfl) rfl rfl (fun _ _ _ h=>h) rfl (y_not (b:=true) rfl rfl) hS ?_
  simp only[ap]
  refine hpu 2 (.bool false) (by kernel_rfl) rfl rfl (fun _ _ _ h=>h) rfl (y_move rfl rfl) hS ?_
  simp only[ap]
  refine hpu 3 (.agg #[.slice (some ⟨bA,off,none⟩) n c,.slice O n co,.map (some bd),.map (some bp)]) (by kernel_rfl) rfl rfl (fun _ _ _ h=>h) rfl (y_load rfl rfl (fun w' q=>run_load83 (hB5.below q hB5.lt))) hS ?_
  simp only[ap]
  refine hpu 4 (.pointer (some ⟨w.heap.size+1,4,none⟩)) (by kernel_rfl) rfl rfl (fun _ _ _ h=>h) rfl (y_field rfl rfl (run_field37_4b _)) hS ?_
  simp only[ap]
  refine hpu 5 (.slice (some ⟨bk,ok,none⟩) m cK) (by kernel_rfl) rfl rfl (fun _ _ _ h=>h) rfl (y_load rfl rfl (fun w' q=>run_load35b (((hN5.below q hN5.lt).cell 4).trans rfl))) hS ?_
  simp only[ap]
  refine hpu 6 (.slice (some ⟨bk,ok2,none⟩) (m-1) (cK-1)) (by kernel_rfl) rfl rfl (fun _ _ _ h=>h) rfl (y_slice1 rfl rfl (fun w'=>by have q:=run_slice35 bk ok m cK h1m w';rw[hok2]at q;exact q)) hS ?_
  simp only[ap]
  refine hpu 8 (.pointer (some ⟨w2.heap.size,0,none⟩)) (by kernel_rfl) rfl rfl (fun _ _ _ h=>h) rfl (y_field rfl rfl (run_field139_0 _)) hS ?_
  simp only[ap]
  refine hpu 9 (.slice VK mx vc) (by kernel_rfl) rfl rfl (fun _ _ _ h=>h) rfl (y_load rfl rfl (fun w' q=>run_load139s (((hS5.below q hS5.lt).cell 0).trans rfl))) hS ?_
  simp only[ap]
  refine h_callx 7 ({ dst:=some 26,op:=Op.call { callee:=Callee.value (Operand.func 261),args := #[Operand.tmp 22,Operand.tmp 25],argTypes := #[87,28] },type:=28,pos := "faults.go:121",after := #[{ on:=3,ground:=Ground.data },{ on:=6,ground:=Ground.data },{ on:=2,ground:=Ground.chain },{ on:=2,ground:=Ground.guard }],guard:=some (2,false) }:Oper) (args := #[.agg #[.slice (some ⟨bA,off,none⟩) n c,.slice O n co,.map (some bd),.map (some bp)],.slice (some ⟨bk,ok2,none⟩) (m-1) (cK-1)]) own257 rfl rfl (by kernel_rfl) rfl rfl (HT.out W5 hb5 _ _ _ hKs hmk) ?_
  rintro e w6 ⟨YK,yc,rfl,hI6,hb6⟩
  refine .inr ⟨_,rfl,hb6,?_⟩
  simp only[Act.put,List.setIfInBounds_toArray,List.set_cons_zero,List.set_cons_succ]
  obtain⟨my,hmy⟩:∃my,my=ys.length:=⟨_,rfl⟩
  rw[← hmy]
  refine h_callx 10 ({ dst:=some 29,op:=Op.call { callee:=Callee.value (Operand.func 223),args := #[Operand.tmp 26,Operand.tmp 28],argTypes := #[28,28] },type:=4,pos := "faults.go:121",after := #[{ on:=7,ground:=Ground.data },{ on:=9,ground:=Ground.data },{ on:=7,ground:=Ground.chain },{ on:=2,ground:=Ground.guard }],guard:=some (2,false) }:Oper) (args := #[.slice YK my yc,.slice VK mx vc]) own137 rfl rfl (by kernel_rfl) rfl rfl (by have q:=ints_eq YK VK my mx yc vc ys xs w6 hI6 (hI5.below hb6) hmy hmx (by rw[hmy];exact HYL.out _ rfl);rw[← HYX.out]at q;exact q) ?_
  rintro e w7 ⟨rfl,hb7⟩
  have hS:=bt hb6 hb7
  refine .inr ⟨_,rfl,hS,?_⟩
  simp only[Act.put,List.setIfInBounds_toArray,List.set_cons_zero,List.set_cons_succ]
  refine hpu 11 (.bool (!yx)) (by kernel_rfl) rfl rfl (fun _ _ _ h=>h) rfl (y_not (b:=yx) rfl rfl) hS ?_
  simp only[ap]
  refine hpu 12 (.bool (!yx)) (by kernel_rfl) rfl rfl (fun _ _ _ h=>h) rfl (y_pickF rfl rfl rfl) hS ?_
  simp only[ap]
  refine wpAnyH_done (by kernel_rfl) ?_ _
  have H7:=Lib.hid (And.intro (hB5.below hS hB5.lt) (And.intro (hN5.below hS hN5.lt) (And.intro (hS5.below hS hS5.lt) (bt hb5 hS))))
  clear hok2 hB5 hN5 hS5 hb5 hI5 hmx hKs hI6 hb6 hb7 hS hmk h1m hmy
  cases yx with
  |false=>
   go_wp2
   go_ret
   exact⟨congrArg (fun z=>Ending.returned (Value.bool z)) (show false=R by rw[HR.out,← HYX.out];rfl),H7.out.2.2.2⟩
  |true=>
   have n3:=(H7.out.2.1.cell 3).trans rfl
   by_cases htx:tx=⟨#[]⟩
   ·subst htx
    go_upto_region 5 with(fail)
    go_quiet (fail)
    go_wp2
    go_ret
    exact⟨congrArg (fun z=>Ending.returned (Value.bool z)) (show true=R by rw[HR.out,← HYX.out];simp),Tk.below_drewN H7.out.2.2.2 _⟩
   ·have hte:(tx.toList==[])=false:=lst_ne htx
    have HVR:=Lib.hid (show(vt==rs)=R by rw[HR.out,← HYX.out,decide_eq_false htx,Bool.eq_iff_iff];simp)
    have c0:=(H7.out.1.cell 0).trans rfl
    have c1:=(H7.out.1.cell 1).trans rfl
    have c2:=(H7.out.1.cell 2).trans rfl
    have c3:=(H7.out.1.cell 3).trans rfl
    have s1:=(H7.out.2.2.1.cell 1).trans rfl
    have m3:=cell_regrown n3
    have d0:=cell_regrown c0
    have d1:=cell_regrown c1
    have d2:=cell_regrown c2
    have d3:=cell_regrown c3
    have t1:=cell_regrown s1
    have cq:∀d os,Calls Tryz.prog 216 #[.agg #[.slice (some ⟨bA,off,none⟩) n c,.slice O n co,.map (some bd),.map (some bp)],.int .i64 (p:Int)] (grow (redrawn w7 d) os) fun e w''=>e = .returned (.int .i64 vt)∧∃p:Regrown,w''=grow (redrawn w7 p.d) p.os:=fun d os=>Calls.regrown_of (HV.out _ (bt H7.out.2.2.2 (below_regrown w7 d os)))
    clear htx n3 c0 c1 c2 c3 s1
    go_wp2
    refine wp_region_quiet_below (by kernel_rfl) (by kernel_rfl) ?_
    repeat (go_big_quiet_step (first|exact cq _ _))
    refine wpQuiet_nil ?_
    intro _ hw'
    obtain⟨⟨dq,osq⟩,hw''⟩:=hw'
    subst hw''
    have hbq:=below_regrown w7 dq osq
    generalize grow (redrawn w7 dq) osq=w8 at *
    have HBQ:=Lib.hid (bt H7.out.2.2.2 hbq)
    clear cq hbq
    go_wp2
    go_ret
    exact⟨congrArg (fun z=>Ending.returned (Value.bool z)) HVR.out,HBQ.out⟩
end
end Go.Proofs.YtedkgofehbecmaaGreatDoor
namespace Go.Proofs.YtedkgofehbecmaaGreatDoor
open Go Go.RowKit Go.Sort
open Tr (Bx heap1 bt Nds Ints VPost BPost)
theorem optZ_none (o:Option Nat):(optZ o == -1)=o.isNone:=by
 cases o with
 |none=>rfl
 |some q=>show((q:Int) == -1)=false;exact beq_eq_false_iff_ne.2 (by omega)
theorem prF_self {l:List Tr.Nd}{p:Nat}(hp:p<l.length)(h:(ndA l p).kd=3):∃q,prF l (ndA l p).tx 0=some q:=by
 obtain⟨r,h1,_⟩:=fstA_mem (P:=prB l (ndA l p).tx) (p:=0) (Nat.zero_le p) hp (by unfold prB;simp[h])
 exact⟨r,h1⟩
theorem dcF_self {l:List Tr.Nd}{p:Nat}(hp:p<l.length)(h:decB (ndA l p).kd=true):∃q,dcF l (owA l p) (ndA l p).tx 0=some q:=by
 obtain⟨r,h1,_⟩:=fstA_mem (P:=dcB l (owA l p) (ndA l p).tx) (p:=0) (Nat.zero_le p) hp (by unfold dcB;simp[h])
 exact⟨r,h1⟩
theorem neq_some {q p:Nat}:(!decide (some q=some p))=((q:Int) != (p:Int)):=by
 rw[Bool.eq_iff_iff];simp;omega
section
variable {w:World} {l:List Tr.Nd} {A O:Option Addr} {n bd bp:Nat}
set_option maxRecDepth 100000 in
set_option maxHeartbeats 1500000 in
theorem fitsReturn_any (h:Prg w l A n O bd bp)(c co p m:Nat)(hp:p<n)(how:owA l p=(m:Int))(hm:m<n):Calls Tryz.prog 222 #[PrV A n c O co bd bp,.int .i64 (p:Int)] w (BPost (fitR l p) w):=by
 unfold PrV
 have hb0:=heap1 w (.cells #[.slice A n c,.slice O n co,.map (some bd),.map (some bp)] 87)
 have xl:p<l.length:=by rw[← h.len];exact hp
 have xz:(p:Int)<(n:Int):=by omega
 obtain⟨bA,off,K,cK,rfl,xt,x0,x1,x2,x3,x4,xI⟩:=node_at h.nds hb0 p xl
 rw[← ndA_eq xl]at x0 x1 x2 x3 x4 xI
 have ul:m<l.length:=by rw[← h.len];exact hm
 have uz:(m:Int)<(n:Int):=by omega
 obtain⟨bBu,offu,K2,cK2,eu,ut,u0,u1,u2,u3,u4,uI⟩:=node_at h.nds hb0 m ul
 cases eu
 rw[← ndA_eq ul]at u0 u1 u2 u3 u4 uI
 obtain⟨bO,oO,rfl,hOl,hOc⟩:=h.owner_at hb0 hp
 rw[how]at hOc
 have hkr:=h.kr hp
 obtain⟨W0,hW0⟩:∃W0,w.alloc (.cells #[.slice (some ⟨bA,off,none⟩) n c,.slice (some ⟨bO,oO,none⟩) n co,.map (some bd),.map (some bp)] 87)=W0:=⟨_,rfl⟩
 have hX:=Bx.new w 87 [.slice (some ⟨bA,off,none⟩) n c,.slice (some ⟨bO,oO,none⟩) n co,.map (some bd),.map (some bp)]
 rw[hW0]at hb0 hX hOl hOc x0 x1 x2 x3 x4 xt u0 u1 u2 u3 u4 ut
 have HT:=Lib.hid (fun W (hb:Below W0.heap.size W0 W) (k:Nat) (hk:k<n)=>typeE_any (h.below (bt hb0 hb)) c co k hk)
 have hKI:∀(h0:0<(ndA l p).ks.length),∃b o,K=some ⟨b,o,none⟩∧b<W0.heap.size∧W0.cell? ⟨b,o,none⟩=some (.int .i64 (ndA l p).ks[0]):=fun h0=>by
  obtain⟨b,o,e,hb,hc⟩:=xI h0
  have:=(hb0.cell (p:=⟨b,o,none⟩) hb).trans (hc 0 h0)
  exact⟨b,o,e,Nat.lt_of_lt_of_le hb hb0.size,this⟩
 obtain⟨R,hR⟩:∃R,R=fitR l p:=⟨_,rfl⟩
 unfold fitR at hR
 rw[how]at hR
 rw[show fitR l p=R by rw[hR];unfold fitR;rw[how]]
 unfold PrV at HT
 have HB0:=Lib.hid hb0
 have HX:=Lib.hid hX
 have b0:=(hX.cell 0).trans rfl
 have b1:=(hX.cell 1).trans rfl
 have b2:=(hX.cell 2).trans rfl
 have b3:=(hX.cell 3).trans rfl
 have d0:=cell_regrown b0
 have d1:=cell_regrown b1
 have d2:=cell_regrown b2
 have d3:=cell_regrown b3
 have e4:=cell_regrown u1
 have e5:=cell_regrown hOc
 have HXT:=Lib.hid (And.intro xt x4)
 clear h how hb0 xI u0 u1 u2 u3 u4 x0 x1 x2 x3 x4 uI b0 b1 b2 b3 hOc hX
 generalize (ndA l (m:Int)).n=rn at *
 by_cases h0:(ndA l p).ks=[]
 ·have hR2:=Lib.hid (show(rn==0)=R by rw[hR,if_pos (Or.inl h0),h0];simp[Bool.beq_eq_decide_eq])
  have hm0:=z_eq0 (show(ndA l p).ks.length=0 by rw[h0];rfl)
  clear hR h0 hKI hkr HT
  generalize (ndA l (p:Int)).ks.length=mk at *
  go_enter Tryz.func222,Tryz.ntmps222
  go_wp2
  refine wp_region_quiet_below (by kernel_rfl) (by kernel_rfl) ?_
  repeat (go_big_quiet_step (first|fail))
  refine wpQuiet_nil ?_
  intro _ hw'
  obtain⟨⟨dq,osq⟩,hw''⟩:=hw'
  subst hw''
  have hbq:=below_regrown W0 dq osq
  generalize grow (redrawn W0 dq) osq=w1 at *
  have hX1:=HX.out.below hbq HX.out.lt
  have c0:=(hX1.cell 0).trans rfl
  have c1:=(hX1.cell 1).trans rfl
  have c2:=(hX1.cell 2).trans rfl
  have c3:=(hX1.cell 3).trans rfl
  have z4:=(hbq.cell (p:=⟨bA,off+p*5+4,none⟩) HXT.out.1).trans HXT.out.2
  have HQ:=Lib.hid hbq
  clear hX1 hbq
  go_wp2
  go_ret
  exact⟨congrArg (fun z=>Ending.returned (Value.bool z)) hR2.out,bt HB0.out HQ.out⟩
 ·have hl0:0<(ndA l p).ks.length:=List.length_pos_iff.2 h0
  have hm0:=z_ne0 (show(ndA l p).ks.length≠0 by omega)
  by_cases hrn:rn=0
  ·subst hrn
   have hR2:=Lib.hid (show false=R by rw[hR,if_pos (Or.inr rfl)];simp[h0])
   clear hR h0 hKI hkr HT hl0
   generalize (ndA l (p:Int)).ks.length=mk at *
   go_enter Tryz.func222,Tryz.ntmps222
   go_wp2
   refine wp_region_quiet_below (by kernel_rfl) (by kernel_rfl) ?_
   repeat (go_big_quiet_step (first|fail))
   refine wpQuiet_nil ?_
   intro _ hw'
   obtain⟨⟨dq,osq⟩,hw''⟩:=hw'
   subst hw''
   have hbq:=below_regrown W0 dq osq
   generalize grow (redrawn W0 dq) osq=w1 at *
   have hX1:=HX.out.below hbq HX.out.lt
   have c0:=(hX1.cell 0).trans rfl
   have c1:=(hX1.cell 1).trans rfl
   have c2:=(hX1.cell 2).trans rfl
   have c3:=(hX1.cell 3).trans rfl
   have z4:=(hbq.cell (p:=⟨bA,off+p*5+4,none⟩) HXT.out.1).trans HXT.out.2
   have HQ:=Lib.hid hbq
   clear hX1 hbq
   go_wp2
   go_ret
   exact⟨congrArg (fun z=>Ending.returned (Value.bool z)) hR2.out,bt HB0.out HQ.out⟩
  ·obtain⟨bk,ok,rfl,hbk,hck⟩:=hKI hl0
   obtain⟨hk0,hk1⟩:=hkr _ (List.getElem_mem hl0)
   obtain⟨k,hk⟩:∃k:Nat,(ndA l p).ks[0]=(k:Int):=⟨((ndA l p).ks[0]).toNat,by omega⟩
   rw[hk]at hck hk1
   have hkn:k<n:=by omega
   have hty:typA l (kidA l p 0).toNat=typA l k:=by
    have e:kidA l p 0=(k:Int):=by
     unfold kidA;rw[← hk,List.getD_eq_getElem?_getD,List.getElem?_eq_getElem hl0];rfl
    rw[e];rfl
   have hR2:=Lib.hid (show(typA l k==rn)=R by rw[hR,if_neg (by simp[h0,hrn]),hty];rfl)
   have hrz:(rn==0)=false:=beq_eq_false_iff_ne.2 hrn
   have hmz:(0:Int)<(((ndA l p).ks.length:Nat):Int):=by omega
   have HCK:=Lib.hid (And.intro hbk hck)
   have HTK:=Lib.hid (fun W (hb:Below W0.heap.size W0 W)=>HT.out W hb k hkn)
   clear hR h0 hKI hkr HT hk hk0 hk1 hty hkn hbk hck hl0
   generalize typA l k=ty at *
   generalize (ndA l (p:Int)).ks.length=mk at *
   go_enter Tryz.func222,Tryz.ntmps222
   go_wp2
   refine wp_region_quiet_below (by kernel_rfl) (by kernel_rfl) ?_
   repeat (go_big_quiet_step (first|fail))
   refine wpQuiet_nil ?_
   intro _ hw'
   obtain⟨⟨dq,osq⟩,hw''⟩:=hw'
   subst hw''
   have hbq:=below_regrown W0 dq osq
   generalize grow (redrawn W0 dq) osq=w1 at *
   have hX1:=HX.out.below hbq HX.out.lt
   have c0:=(hX1.cell 0).trans rfl
   have c1:=(hX1.cell 1).trans rfl
   have c2:=(hX1.cell 2).trans rfl
   have c3:=(hX1.cell 3).trans rfl
   have z4:=(hbq.cell (p:=⟨bA,off+p*5+4,none⟩) HXT.out.1).trans HXT.out.2
   have HQ:=Lib.hid hbq
   clear hX1 hbq
   go_wp2
   have y4:=(HQ.out.cell (p:=⟨bk,ok,none⟩) HCK.out.1).trans HCK.out.2
   have k0:=cell_regrown y4
   have g0:=cell_regrown c0
   have g1:=cell_regrown c1
   have g2:=cell_regrown c2
   have g3:=cell_regrown c3
   have cq:∀d os,Calls Tryz.prog 220 #[.agg #[.slice (some ⟨bA,off,none⟩) n c,.slice (some ⟨bO,oO,none⟩) n co,.map (some bd),.map (some bp)],.int .i64 (k:Int)] (grow (redrawn w1 d) os) fun e w''=>e = .returned (.int .i64 ty)∧∃p:Regrown,w''=grow (redrawn w1 p.d) p.os:=fun d os=>Calls.regrown_of (HTK.out _ (bt HQ.out (below_regrown w1 d os)))
   clear y4 c0 c1 c2 c3 z4
   refine wp_region_quiet_below (by kernel_rfl) (by kernel_rfl) ?_
   repeat (go_big_quiet_step (first|exact cq _ _))
   refine wpQuiet_nil ?_
   intro _ hw'
   obtain⟨⟨dq,osq⟩,hw''⟩:=hw'
   subst hw''
   have hbq:=below_regrown w1 dq osq
   generalize grow (redrawn w1 dq) osq=w2 at *
   have HQ2:=Lib.hid (bt HQ.out hbq)
   clear hbq cq
   go_wp2
   go_ret
   exact⟨congrArg (fun z=>Ending.returned (Value.bool z)) hR2.out,bt HB0.out HQ2.out⟩
end
end Go.Proofs.YtedkgofehbecmaaGreatDoor
