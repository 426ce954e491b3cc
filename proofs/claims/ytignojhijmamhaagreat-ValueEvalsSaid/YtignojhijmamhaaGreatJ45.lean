/- PROVED here: parts TyDh of the claim. No condition but those in each theorem's own head. -/
import Derived.Test.YtignojhijmamhaaGreatJ44
namespace Go.Proofs.YtignojhijmamhaaGreat.Ty
open Go Go.RowKit Go.Sort
open Tr (Bx heap1 bt Nds Ints VPost BPost rgB par par_yes par_root par_node paL kidsAt IsPost)
theorem res_len {l:List Tr.Nd}{p:Nat}{want:List Int}{answer:Int}(h:(ndA l p).ks.length≠want.length+1):resA l p want answer=5:=by
 unfold resA;rw[if_pos (Or.inl h)]
theorem res_text {l:List Tr.Nd}{p:Nat}{want:List Int}{answer:Int}(h:(ndA l p).tx≠⟨#[]⟩)(h2:answer=0∨vrT l p≠answer):resA l p want answer=5:=by
 unfold resA;rw[if_pos (Or.inr ⟨h,h2⟩)]
theorem res_row {l:List Tr.Nd}{p:Nat}{want:List Int}{answer:Int}{k:Int}{ks:List Int}(hks:(ndA l p).ks=k :: ks)(hl:ks.length=want.length)(h2:(ndA l p).tx=⟨#[]⟩∨(answer≠0∧vrT l p=answer)):resA l p want answer=if (ks.map fun k=>typA l k.toNat)=want then 0 else 5:=by
 unfold resA
 rw[if_neg (by
  rintro(h |⟨h,h3⟩)
  ·exact h (by rw[hks,List.length_cons,hl])
  ·rcases h2 with h4 |⟨h4,h5⟩
   ·exact h h4
   ·rcases h3 with h6 |h6
    ·exact h4 h6
    ·exact h6 h5),hks]
 rfl
theorem row_yes {f:Int→Int}{ks want:List Int}(hl:ks.length=want.length)(h:∀j (h1:j<ks.length) (h2:j<want.length),f ks[j]=want[j]):ks.map f=want:=by
 refine List.ext_getElem (by rw[List.length_map];exact hl) fun j h1 h2 =>?_
 rw[List.getElem_map]
 exact h j (by rw[List.length_map]at h1;exact h1) h2
theorem row_no {f:Int→Int}{ks want:List Int}{j:Nat}(h1:j<ks.length)(h2:j<want.length)(h:f ks[j]≠want[j]):ks.map f≠want:=fun e=>h (by
 subst e
 rw[List.getElem_map])
theorem w64_succ (j:Nat)(h:j≤4001):wrap64 ((j:Int)+1)=((j+1:Nat):Int):=by
 rw[IntWalk.wrap64_in _ (by omega)];omega
theorem ints_one (w:World)(x:Int):Ints (w.alloc (.cells #[.int .i64 x] 3)) (some ⟨w.heap.size,0,none⟩) [x]:=fun _=>⟨w.heap.size,0,rfl,(Bx.new w 3 [.int .i64 x]).lt,fun j hj=>by
 obtain rfl:j=0:=by simpa using hj
 exact(Bx.new w 3 [.int .i64 x]).cell 0⟩
section
variable {w:World} {l:List Tr.Nd} {A:Option Addr} {n:Nat} {r:Int}
set_option maxRecDepth 100000 in
set_option maxHeartbeats 8000000 in
theorem rcall_any (h:RT w A n l r)(c p:Nat)(hp:p<n)(h13:(ndA l p).kd=13):Calls Tryz.prog 79 #[.agg #[.slice A n c,.int .i64 r],.int .i64 (p:Int)] w (Tr.IPost (clA l p) w):=by
 have hb0:=heap1 w (.cells #[.slice A n c,.int .i64 r] 24)
 have HX:=Lib.hid (Bx.new w 24 [.slice A n c,.int .i64 r])
 have HB0:=Lib.hid hb0
 have HT:=Lib.hid (h.below hb0)
 obtain⟨W0,hW0⟩:∃W0,w.alloc (.cells #[.slice A n c,.int .i64 r] 24)=W0:=⟨_,rfl⟩
 rw[hW0]at HX HB0 HT
 clear h hb0
 obtain⟨bA,off,K,cK,rfl,xt,x0,x1,x2,x3,x4,xI⟩:=HT.out.node hp
 have a0:=(HX.out.cell 0).trans rfl
 have a1:=(HX.out.cell 1).trans rfl
 have hpz:(p:Int)<(n:Int):=by omega
 have hb1:=heap1 W0 (.cells #[.int .i64 (ndA l p).kd,.int .i64 (ndA l p).n,.int .i64 (ndA l p).pl,.string (ndA l p).tx,.slice K (ndA l p).ks.length cK] 66)
 have HB1:=Lib.hid hb1
 have hX1:=HX.out.alloc (.cells #[.int .i64 (ndA l p).kd,.int .i64 (ndA l p).n,.int .i64 (ndA l p).pl,.string (ndA l p).tx,.slice K (ndA l p).ks.length cK] 66)
 have hN1:=Bx.new W0 66 [.int .i64 (ndA l p).kd,.int .i64 (ndA l p).n,.int .i64 (ndA l p).pl,.string (ndA l p).tx,.slice K (ndA l p).ks.length cK]
 obtain⟨W1,hW1⟩:∃W1,W0.alloc (.cells #[.int .i64 (ndA l p).kd,.int .i64 (ndA l p).n,.int .i64 (ndA l p).pl,.string (ndA l p).tx,.slice K (ndA l p).ks.length cK] 66)=W1:=⟨_,rfl⟩
 rw[hW1]at HB1 hX1 hN1
 have HX1:=Lib.hid (And.intro hX1 hN1)
 have HT1:=Lib.hid (HT.out.below HB1.out)
 have HI:=Lib.hid (xI.below HB1.out)
 have hln:=HT.out.tt.len
 have hpl:p<l.length:=by rw[← hln];exact hp
 obtain⟨b,hRT⟩:=HT.out.rtn
 obtain⟨k0,ks0,hks⟩:=(hRT.ndf hpl).one (by omega)
 obtain⟨k,rfl,hki⟩:=hRT.nat hpl k0 (by rw[hks];simp)
 have hkn:k<n:=by omega
 have hkz:(k:Int)<(n:Int):=by omega
 have HKQ:=Lib.hid (show∀x ∈ ks0,∃q:Nat,x=(q:Int)∧q<n from fun x hx=>by
  obtain⟨q,e,h⟩:=hRT.nat hpl x (by rw[hks];exact List.mem_cons_of_mem _ hx)
  exact⟨q,e,by omega⟩)
 have hcal:calN l p=(ndA l k).tx:=by unfold calN kidA;rw[hks];rfl
 have hroot:=HT.out.root
 have hrl:l.length-1<n:=by have:=hRT.len;rw[hln];omega
 obtain⟨bB,off2,_,_,e3,yt,_,_,_,y3,_⟩:=HT1.out.node hkn
 cases e3
 obtain⟨bK,oK,hKe,hbK,hcK⟩:=HI.out (by rw[hks];simp)
 have ck:=hcK 0 (by rw[hks];simp)
 have ck:W1.cell? ⟨bK,oK,none⟩=some (.int .i64 (k:Int)):=by rw[show W1.cell? ⟨bK,oK,none⟩=_ from ck];simp only[hks];rfl
 obtain⟨m,hm⟩:∃m,m=(ndA l p).ks.length:=⟨_,rfl⟩
 have HM:=Lib.hid (show m=ks0.length+1 by rw[hm,hks];rfl)
 have hmz:(0:Int)<(m:Int):=by have:=HM.out;omega
 have hm4:m≤4001:=by rw[hm,ndA_eq hpl];have:=HT.out.tt.kids _ (List.getElem_mem hpl);omega
 rw[← hm]at hW1 HX1 x4
 have HMN:=Lib.hid (fun W (q:Below W1.heap.size W1 W)=>means_any (HT1.out.below q) c p (calN l p) hp)
 have HMT:=Lib.hid (fun W (q:Below W1.heap.size W1 W)=>means_any (HT1.out.below q) c p (ndA l p).tx hp)
 have HKD:=Lib.hid (fun W (q:Below W1.heap.size W1 W)=>kind_any (HT1.out.below q) c p (ndA l p).tx hp)
 rw[show kdT l p (ndA l p).tx=vrT l p from rfl]at HKD
 have hof:=fun W (q:Below W1.heap.size W1 W)=>of_any (HT1.out.below q) c (l.length-1) hrl 3 3 (calN l p)
 rw[hRT.of33,← hroot]at hof
 have HOF:=Lib.hid hof
 have HPR:=Lib.hid (fun(q:Nat) (hq:prF l (calN l p) 0=some q)=>show q<n by rw[hln];exact(prF_lt hq).1)
 have HDR:=Lib.hid (fun(d:Nat) nm (hd:dnA l p nm=some d)=>show d<n by rw[hln];exact(dnA_lt hd).1)
 rw[← hcal]at y3
 obtain⟨vt0,hvt⟩:∃vt0,vrT l p=vt0:=⟨_,rfl⟩
 have HVT:=Lib.hid hvt
 rw[hvt]at HKD
 have e0:=(HX1.out.1.cell 0).trans rfl
 have e1:=(HX1.out.1.cell 1).trans rfl
 have et:=(HX1.out.2.cell 3).trans rfl
 have es:=(HX1.out.2.cell 4).trans rfl
 subst hKe
 have s0:=cell_regrown e0
 have s1:=cell_regrown e1
 have s2:=cell_regrown es
 have s3:=cell_regrown ck
 have s4:=cell_regrown y3
 have HHKS:=Lib.hid hks
 clear hb1 hX1 hN1 xI hRT HT HX hof hcal hroot hrl hcK ck y3 yt hki hkn hm hvt h13 hpl hln
 cases h1:dnA l p (calN l p) with
 |none=>
  rw[h1,show optZ none = -1 from rfl]at HMN
  cases h2:prF l (calN l p) 0 with
  |none=>
   rw[h2,show optZ none = -1 from rfl]at HOF
   have HVAL:=Lib.hid (show clA l p=3 by unfold clA;rw[if_pos (Or.inl ⟨by rw[h1];rfl,by rw[h2];rfl⟩)])
   clear h1 h2 HMT HKD
   go_enter Tryz.func79,Tryz.ntmps79
   go_upto_region 2 with(fail)
   refine wp_region_quiet_below (by kernel_rfl) (by kernel_rfl) ?_
   repeat (go_big_quiet_step (first|fail))
   refine wpQuiet_nil ?_
   intro _ hw'
   obtain⟨⟨dq,osq⟩,hw''⟩:=hw'
   subst hw''
   have hbq:=below_regrown W1 dq osq
   generalize grow (redrawn W1 dq) osq=W4 at *
   have HB4:=Lib.hid hbq
   clear s0 s1 s2 s3 s4 e0 e1 et es
   have v0:=((HX1.out.1.below hbq HX1.out.1.lt).cell 0).trans rfl
   have v1:=((HX1.out.1.below hbq HX1.out.1.lt).cell 1).trans rfl
   have vt:=((HX1.out.2.below hbq HX1.out.2.lt).cell 3).trans rfl
   have vs:=((HX1.out.2.below hbq HX1.out.2.lt).cell 4).trans rfl
   clear hbq
   go_wp2_with (go_at_call 102;refine(HMN.out _ HB4.out).mono ?_)
   rintro e w5 ⟨rfl,hb5⟩
   have hb6:=bt HB4.out hb5
   have HB5:=Lib.hid hb6
   clear v0 v1 vt vs hb5
   have v0:=((HX1.out.1.below hb6 HX1.out.1.lt).cell 0).trans rfl
   have v1:=((HX1.out.1.below hb6 HX1.out.1.lt).cell 1).trans rfl
   have vt:=((HX1.out.2.below hb6 HX1.out.2.lt).cell 3).trans rfl
   have vs:=((HX1.out.2.below hb6 HX1.out.2.lt).cell 4).trans rfl
   clear hb6
   go_wp2_with (go_at_call 41;refine(HOF.out _ HB5.out).mono ?_)
   rintro e w6 ⟨rfl,hb7⟩
   have hb6:=bt HB5.out hb7
   have HB6:=Lib.hid hb6
   clear v0 v1 vt vs hb7
   have v0:=((HX1.out.1.below hb6 HX1.out.1.lt).cell 0).trans rfl
   have v1:=((HX1.out.1.below hb6 HX1.out.1.lt).cell 1).trans rfl
   have vt:=((HX1.out.2.below hb6 HX1.out.2.lt).cell 3).trans rfl
   have vs:=((HX1.out.2.below hb6 HX1.out.2.lt).cell 4).trans rfl
   clear hb6
   have HE:=Lib.hid (bt HB0.out (bt HB1.out HB6.out))
   clear v0 v1 vt vs
   go_wp2
   go_ret
   exact⟨by rw[HVAL.out];try rfl,HE.out⟩
  |some q=>
   rw[h2,show optZ (some q)=(q:Int)from rfl]at HOF
   have hq0:¬(q:Int)<0:=by omega
   have HD1:=Lib.hid h1
   have HQ1:=Lib.hid h2
   clear h1 h2
   by_cases htx:(ndA l p).tx=⟨#[]⟩
   ·have HTX0:=Lib.hid htx
    have HNO:=Lib.hid (show¬(((dnA l p (calN l p)).isNone=true∧(prF l (calN l p) 0).isNone=true)∨((ndA l p).tx≠⟨#[]⟩∧(dnA l p (ndA l p).tx).isNone=true)) by
     rintro(⟨h1,h2⟩ |⟨h1,_⟩)
     ·rw[HQ1.out]at h2;cases h2
     ·exact h1 htx)
    rw[htx]at x3 et hW1 HX1
    clear htx HMT HKD
    go_enter Tryz.func79,Tryz.ntmps79
    go_upto_region 2 with(fail)
    refine wp_region_quiet_below (by kernel_rfl) (by kernel_rfl) ?_
    repeat (go_big_quiet_step (first|fail))
    refine wpQuiet_nil ?_
    intro _ hw'
    obtain⟨⟨dq,osq⟩,hw''⟩:=hw'
    subst hw''
    have hbq:=below_regrown W1 dq osq
    generalize grow (redrawn W1 dq) osq=W4 at *
    have HB4:=Lib.hid hbq
    clear s0 s1 s2 s3 s4 e0 e1 et es
    have v0:=((HX1.out.1.below hbq HX1.out.1.lt).cell 0).trans rfl
    have v1:=((HX1.out.1.below hbq HX1.out.1.lt).cell 1).trans rfl
    have vt:=((HX1.out.2.below hbq HX1.out.2.lt).cell 3).trans rfl
    have vs:=((HX1.out.2.below hbq HX1.out.2.lt).cell 4).trans rfl
    clear hbq
    go_wp2_with (go_at_call 102;refine(HMN.out _ HB4.out).mono ?_)
    rintro e w5 ⟨rfl,hb5⟩
    have hb6:=bt HB4.out hb5
    have HB5:=Lib.hid hb6
    clear v0 v1 vt vs hb5
    have v0:=((HX1.out.1.below hb6 HX1.out.1.lt).cell 0).trans rfl
    have v1:=((HX1.out.1.below hb6 HX1.out.1.lt).cell 1).trans rfl
    have vt:=((HX1.out.2.below hb6 HX1.out.2.lt).cell 3).trans rfl
    have vs:=((HX1.out.2.below hb6 HX1.out.2.lt).cell 4).trans rfl
    clear hb6
    go_wp2_with (go_at_call 41;refine(HOF.out _ HB5.out).mono ?_)
    rintro e w6 ⟨rfl,hb7⟩
    have hb6:=bt HB5.out hb7
    have HB6:=Lib.hid hb6
    clear v0 v1 vt vs hb7
    have v0:=((HX1.out.1.below hb6 HX1.out.1.lt).cell 0).trans rfl
    have v1:=((HX1.out.1.below hb6 HX1.out.1.lt).cell 1).trans rfl
    have vt:=((HX1.out.2.below hb6 HX1.out.2.lt).cell 3).trans rfl
    have vs:=((HX1.out.2.below hb6 HX1.out.2.lt).cell 4).trans rfl
    clear hb6
    have hbw:=heap1 w6 (.cells #[.int .i64 1] 3)
    have hb7:=bt HB6.out hbw
    have HB7:=Lib.hid hb7
    have hS7:=ints_one w6 1
    obtain⟨W7,hW7⟩:∃W7,w6.alloc (.cells #[.int .i64 1] 3)=W7:=⟨_,rfl⟩
    rw[hW7]at hbw hb7 HB7 hS7
    have u0:=((HX1.out.1.below hb7 HX1.out.1.lt).cell 0).trans rfl
    have u1:=((HX1.out.1.below hb7 HX1.out.1.lt).cell 1).trans rfl
    have ut:=((HX1.out.2.below hb7 HX1.out.2.lt).cell 3).trans rfl
    have us:=((HX1.out.2.below hb7 HX1.out.2.lt).cell 4).trans rfl
    have HPA:=Lib.hid (params_any (HT1.out.below hb7) c q (HPR.out q HQ1.out))
    have hqz:(q:Int)<(n:Int):=by have:=HPR.out q HQ1.out;omega
    have HVAL:=Lib.hid (show clA l p=resA l p (sgP l q) (ndA l q).n by
     unfold clA
     rw[if_neg HNO.out,HD1.out,HQ1.out]
     rfl)
    have HXL:=Lib.hid (show(sgP l q).length≤4001 from by
     have h2:q<l.length:=(prF_lt HQ1.out).1
     have h3:(sgP l q).length≤(ndA l q).ks.length:=sgX_len l _
     have h4:=HT1.out.tt.kids _ (List.getElem_mem h2)
     rw[← ndA_eq h2]at h4
     omega)
    clear hbw hS7
    go_wp2_with (go_at_call 42;refine HPA.out.mono ?_)
    rintro e w8 ⟨S,cS,rfl,hS8,hb8⟩
    have hb9:=bt HB7.out hb8
    have HB9:=Lib.hid hb9
    have HSX:=Lib.hid hS8
    obtain⟨bB2,off3,_,_,e3,yt,_,y1,_⟩:=(HT1.out.below hb9).node (HPR.out q HQ1.out)
    cases e3
    clear v0 v1 vt vs u0 u1 ut us
    have v0:=((HX1.out.1.below hb9 HX1.out.1.lt).cell 0).trans rfl
    have v1:=((HX1.out.1.below hb9 HX1.out.1.lt).cell 1).trans rfl
    have vt:=((HX1.out.2.below hb9 HX1.out.2.lt).cell 3).trans rfl
    have vs:=((HX1.out.2.below hb9 HX1.out.2.lt).cell 4).trans rfl
    clear hb7 hb8 hb9 hS8 yt
    obtain⟨xs,hxs⟩:∃xs,sgP l q=xs:=⟨_,rfl⟩
    rw[hxs]at HVAL HXL HSX ⊢
    obtain⟨xn,hxn⟩:∃xn,xs.length=xn:=⟨_,rfl⟩
    rw[hxn]at HXL ⊢
    have HXN:=Lib.hid hxn
    clear hxn
    obtain⟨an,han⟩:∃an,(ndA l q).n=an:=⟨_,rfl⟩
    rw[han]at HVAL y1
    clear hxs han HPA
    go_upto_region 14 with(fail)
    clear y1
    by_cases hlen:m=xn+1
    ·have HKL:=Lib.hid (show ks0.length=xs.length by have:=HM.out;have:=HXN.out;omega)
     have hxl:xn≤4001:=HXL.out
     have hcm:(m:Int)=(xn:Int)+1:=by omega
     have HMX:=Lib.hid hlen
     clear hlen
     have HTX:=Lib.hid (show(ndA l p).tx=⟨#[]⟩∨((an:Int)≠0∧vrT l p=an)from Or.inl HTX0.out)
     have HSY:=Lib.hid (fun W' (k:Below w8.heap.size w8 W')=>HSX.out.below k)
     go_wp2
     clear vt vs v0 v1 hcm
     go_loopg [11] xn (fun g v wr=>∃j:Nat,v = .int .i64 (j:Int)∧j≤xn∧g=xn-j∧(∀i (h1:i<ks0.length) (h2:i<xs.length),i<j→typA l (ks0[i]).toNat=xs[i])∧Below w8.heap.size w8 wr)
     case atStart=>exact⟨0,rfl,Nat.zero_le _,rfl,fun i _ _ h=>absurd h (Nat.not_lt_zero _),Below.refl _ _⟩
     case round=>
      obtain⟨j,rfl,hj,rfl,hok,hb⟩:=hrel
      have HOK:=Lib.hid hok
      have hb2:=bt HB9.out hb
      have HB:=Lib.hid hb
      obtain⟨W9,rfl⟩:∃W9,W9=wr:=⟨_,rfl⟩
      clear hok
      by_cases hjm:j<xn
      ·have hjz:(j:Int)<(xn:Int):=by omega
       have hjx:j<xs.length:=by rw[HXN.out];exact hjm
       have hjk:j<ks0.length:=by have:=HKL.out;omega
       obtain⟨q,hq,hqn⟩:=HKQ.out _ (List.getElem_mem hjk)
       obtain⟨bS,oS,rfl,hbS,hcS⟩:=HSY.out W9 hb (by omega)
       have hsj:=hcS j hjx
       obtain⟨bK2,oK2,hK2,hbK,hcK⟩:=HI.out (by rw[HHKS.out];simp)
       cases hK2
       have hkj0:=hcK (j+1) (by rw[HHKS.out];simp only[List.length_cons];omega)
       have hkj:W1.cell? ⟨bK,oK+(j+1),none⟩=some (.int .i64 (q:Int)):=by rw[hkj0];simp only[HHKS.out,List.getElem_cons_succ,hq]
       clear hkj0
       have hkj9:=(hb2.cell (p:=⟨bK,oK+(j+1),none⟩) hbK).trans hkj
       have HTY:=Lib.hid (fun W' (k:Below W9.heap.size W9 W')=>typed_any (HT1.out.below (bt hb2 k)) c q hqn)
       have HQV:=Lib.hid (show typA l (ks0[j]).toNat=typA l q by rw[hq];rfl)
       have v0:=((HX1.out.1.below hb2 HX1.out.1.lt).cell 0).trans rfl
       have v1:=((HX1.out.1.below hb2 HX1.out.1.lt).cell 1).trans rfl
       have vs:=((HX1.out.2.below hb2 HX1.out.2.lt).cell 4).trans rfl
       have s0:=cell_regrown v0
       have s1:=cell_regrown v1
       have s2:=cell_regrown vs
       have s3:=cell_regrown hkj9
       have s4:=cell_regrown hsj
       obtain⟨jn,hjn⟩:∃jn,j+1=jn:=⟨_,rfl⟩
       have hj1:wrap64 ((j:Int)+1)=(jn:Int):=by rw[← hjn];exact w64_succ j (Nat.le_trans hj hxl)
       have hjn2:jn<m:=by rw[← hjn,HMX.out];exact Nat.succ_lt_succ hjm
       have hjn3:(jn:Int)<(m:Int):=Int.ofNat_lt.2 hjn2
       rw[hjn]at s3
       clear hjn hjn2
       have HJN:=Lib.hid hjk
       have HJX:=Lib.hid hjx
       obtain⟨xj,hxj⟩:∃xj,xs[j]'hjx=xj:=⟨_,rfl⟩
       rw[hxj]at hsj s4
       have HXJ:=Lib.hid hxj
       have cq:∀d os,Calls Tryz.prog 78 #[.agg #[.slice (some ⟨bA,off,none⟩) n c,.int .i64 r],.int .i64 (q:Int)] (grow (redrawn W9 d) os) fun e w''=>e = .returned (.int .i64 (typA l q))∧∃p:Regrown,w''=grow (redrawn W9 p.d) p.os:=fun d os=>Calls.regrown_of (HTY.out _ (below_regrown W9 d os))
       clear hq hcS hcK hkj hkj9 hsj hb hb2 v0 v1 vs HTY hxj
       generalize typA l q=tq at *
       have HJ:=Lib.hid (And.intro hj (And.intro hjm hxl))
       clear hj hjm hxl hm4 hmz hqz hq0 hkz hpz hqn
       by_cases e:tq=xj
       ·have h1:(tq != xj)=false:=by simp[e]
        have HEQ:=Lib.hid e
        clear e
        go_upto_region 19 with(fail)
        refine wp_region_quiet_below (by kernel_rfl) (by kernel_rfl) ?_
        iterate 5 (go_big_quiet_step (first|exact cq _ _))
        rw[hj1]
        repeat (go_big_quiet_step (first|exact cq _ _))
        refine wpQuiet_nil ?_
        intro _ hw'
        obtain⟨⟨dq,osq⟩,hw''⟩:=hw'
        subst hw''
        have hbq:=below_regrown W9 dq osq
        generalize grow (redrawn W9 dq) osq=W10 at *
        have HB10:=Lib.hid (HB.out.trans (hbq.mono HB.out.size))
        clear s0 s1 s2 s3 s4 hbq cq
        have HG:=Lib.hid (show∀i (h1:i<ks0.length) (h2:i<xs.length),i<j+1→typA l (ks0[i]).toNat=xs[i]from fun i h1 h2 h3=>by
         rcases Nat.lt_or_eq_of_le (Nat.le_of_lt_succ h3)with h4 |h4
         ·exact HOK.out i h1 h2 h4
         ·subst h4
          rw[HQV.out,HXJ.out];exact HEQ.out)
        have hj:=HJ.out.1
        have hjm:=HJ.out.2.1
        have hxl:=HJ.out.2.2
        go_wp2
        go_roundg (xn-(j+1))
        case measure=>go_light;omega
        case rel=>
         go_light
         exact⟨j+1,by go_num,by omega,rfl,HG.out,HB10.out⟩
       ·have h1:(tq != xj)=true:=by simp[e]
        have HEQ:=Lib.hid e
        clear e
        go_upto_region 19 with(fail)
        refine wp_region_quiet_below (by kernel_rfl) (by kernel_rfl) ?_
        iterate 5 (go_big_quiet_step (first|exact cq _ _))
        rw[hj1]
        repeat (go_big_quiet_step (first|exact cq _ _))
        refine wpQuiet_nil ?_
        intro _ hw'
        obtain⟨⟨dq,osq⟩,hw''⟩:=hw'
        subst hw''
        have hbq:=below_regrown W9 dq osq
        generalize grow (redrawn W9 dq) osq=W10 at *
        have HE:=Lib.hid (bt HB0.out (bt HB1.out (bt HB9.out (HB.out.trans (hbq.mono HB.out.size)))))
        clear s0 s1 s2 s3 s4 hbq cq
        have HV:=Lib.hid (show resA l p xs an=5 by
         rw[res_row HHKS.out HKL.out HTX.out,if_neg (row_no HJN.out HJX.out (by rw[HQV.out,HXJ.out];exact HEQ.out))])
        go_wp2
        go_ret
        exact⟨by rw[HVAL.out,HV.out];try rfl,HE.out⟩
      ·obtain rfl:j=xn:=by omega
       have hjz:¬(j:Int)<(j:Int):=by omega
       have HV:=Lib.hid (show resA l p xs an=0 by
        rw[res_row HHKS.out HKL.out HTX.out,if_pos (row_yes HKL.out fun i h1 h2=>HOK.out i h1 h2 (by have:=HXN.out;omega))])
       have HE:=Lib.hid (bt HB0.out (bt HB1.out hb2))
       clear hb hb2
       go_wp2
       go_ret
       exact⟨by rw[HVAL.out,HV.out];try rfl,HE.out⟩
    ·have hxl:xn≤4001:=HXL.out
     have hcm:¬(m:Int)=(xn:Int)+1:=by omega
     have HV:=Lib.hid (show resA l p xs an=5 from res_len (by rw[HHKS.out,List.length_cons];have:=HM.out;have:=HXN.out;omega))
     have HE:=Lib.hid (bt HB0.out (bt HB1.out HB9.out))
     clear hlen
     go_wp2
     go_ret
     exact⟨by rw[HVAL.out,HV.out];try rfl,HE.out⟩
   ·have HTX0:=Lib.hid htx
    have htb:=lst_ne htx
    have htn:((ndA l p).tx.toList != [])=true:=by rw[bne,htb];rfl
    clear htx
    cases h3:dnA l p (ndA l p).tx with
    |none=>
     have HVAL:=Lib.hid (show clA l p=3 by unfold clA;rw[if_pos (Or.inr ⟨HTX0.out,by rw[h3];rfl⟩)])
     rw[h3,show optZ none = -1 from rfl]at HMT
     clear h3 HKD
     go_enter Tryz.func79,Tryz.ntmps79
     go_upto_region 2 with(fail)
     refine wp_region_quiet_below (by kernel_rfl) (by kernel_rfl) ?_
     repeat (go_big_quiet_step (first|fail))
     refine wpQuiet_nil ?_
     intro _ hw'
     obtain⟨⟨dq,osq⟩,hw''⟩:=hw'
     subst hw''
     have hbq:=below_regrown W1 dq osq
     generalize grow (redrawn W1 dq) osq=W4 at *
     have HB4:=Lib.hid hbq
     clear s0 s1 s2 s3 s4 e0 e1 et es
     have v0:=((HX1.out.1.below hbq HX1.out.1.lt).cell 0).trans rfl
     have v1:=((HX1.out.1.below hbq HX1.out.1.lt).cell 1).trans rfl
     have vt:=((HX1.out.2.below hbq HX1.out.2.lt).cell 3).trans rfl
     have vs:=((HX1.out.2.below hbq HX1.out.2.lt).cell 4).trans rfl
     clear hbq
     go_wp2_with (go_at_call 102;refine(HMN.out _ HB4.out).mono ?_)
     rintro e w5 ⟨rfl,hb5⟩
     have hb6:=bt HB4.out hb5
     have HB5:=Lib.hid hb6
     clear v0 v1 vt vs hb5
     have v0:=((HX1.out.1.below hb6 HX1.out.1.lt).cell 0).trans rfl
     have v1:=((HX1.out.1.below hb6 HX1.out.1.lt).cell 1).trans rfl
     have vt:=((HX1.out.2.below hb6 HX1.out.2.lt).cell 3).trans rfl
     have vs:=((HX1.out.2.below hb6 HX1.out.2.lt).cell 4).trans rfl
     clear hb6
     go_wp2_with (go_at_call 41;refine(HOF.out _ HB5.out).mono ?_)
     rintro e w6 ⟨rfl,hb7⟩
     have hb6:=bt HB5.out hb7
     have HB6:=Lib.hid hb6
     clear v0 v1 vt vs hb7
     have v0:=((HX1.out.1.below hb6 HX1.out.1.lt).cell 0).trans rfl
     have v1:=((HX1.out.1.below hb6 HX1.out.1.lt).cell 1).trans rfl
     have vt:=((HX1.out.2.below hb6 HX1.out.2.lt).cell 3).trans rfl
     have vs:=((HX1.out.2.below hb6 HX1.out.2.lt).cell 4).trans rfl
     clear hb6
     go_wp2_with (go_at_call 102;refine(HMT.out _ HB6.out).mono ?_)
     rintro e w7 ⟨rfl,hb8⟩
     have HE:=Lib.hid (bt HB0.out (bt HB1.out (bt HB6.out hb8)))
     clear hb8 v0 v1 vt vs
     go_wp2
     go_ret
     exact⟨by rw[HVAL.out];try rfl,HE.out⟩
    |some d2=>
     have HNO:=Lib.hid (show¬(((dnA l p (calN l p)).isNone=true∧(prF l (calN l p) 0).isNone=true)∨((ndA l p).tx≠⟨#[]⟩∧(dnA l p (ndA l p).tx).isNone=true)) by
      rintro(⟨h1,h2⟩ |⟨_,h1⟩)
      ·rw[HQ1.out]at h2;cases h2
      ·rw[h3]at h1;cases h1)
     rw[h3,show optZ (some d2)=(d2:Int)from rfl]at HMT
     have hd20:¬(d2:Int)<0:=by omega
     clear h3
     go_enter Tryz.func79,Tryz.ntmps79
     go_upto_region 2 with(fail)
     refine wp_region_quiet_below (by kernel_rfl) (by kernel_rfl) ?_
     repeat (go_big_quiet_step (first|fail))
     refine wpQuiet_nil ?_
     intro _ hw'
     obtain⟨⟨dq,osq⟩,hw''⟩:=hw'
     subst hw''
     have hbq:=below_regrown W1 dq osq
     generalize grow (redrawn W1 dq) osq=W4 at *
     have HB4:=Lib.hid hbq
     clear s0 s1 s2 s3 s4 e0 e1 et es
     have v0:=((HX1.out.1.below hbq HX1.out.1.lt).cell 0).trans rfl
     have v1:=((HX1.out.1.below hbq HX1.out.1.lt).cell 1).trans rfl
     have vt:=((HX1.out.2.below hbq HX1.out.2.lt).cell 3).trans rfl
     have vs:=((HX1.out.2.below hbq HX1.out.2.lt).cell 4).trans rfl
     clear hbq
     go_wp2_with (go_at_call 102;refine(HMN.out _ HB4.out).mono ?_)
     rintro e w5 ⟨rfl,hb5⟩
     have hb6:=bt HB4.out hb5
     have HB5:=Lib.hid hb6
     clear v0 v1 vt vs hb5
     have v0:=((HX1.out.1.below hb6 HX1.out.1.lt).cell 0).trans rfl
     have v1:=((HX1.out.1.below hb6 HX1.out.1.lt).cell 1).trans rfl
     have vt:=((HX1.out.2.below hb6 HX1.out.2.lt).cell 3).trans rfl
     have vs:=((HX1.out.2.below hb6 HX1.out.2.lt).cell 4).trans rfl
     clear hb6
     go_wp2_with (go_at_call 41;refine(HOF.out _ HB5.out).mono ?_)
     rintro e w6 ⟨rfl,hb7⟩
     have hb6:=bt HB5.out hb7
     have HB6:=Lib.hid hb6
     clear v0 v1 vt vs hb7
     have v0:=((HX1.out.1.below hb6 HX1.out.1.lt).cell 0).trans rfl
     have v1:=((HX1.out.1.below hb6 HX1.out.1.lt).cell 1).trans rfl
     have vt:=((HX1.out.2.below hb6 HX1.out.2.lt).cell 3).trans rfl
     have vs:=((HX1.out.2.below hb6 HX1.out.2.lt).cell 4).trans rfl
     clear hb6
     go_wp2_with (go_at_call 102;refine(HMT.out _ HB6.out).mono ?_)
     rintro e w7 ⟨rfl,hb8⟩
     have hb9:=bt HB6.out hb8
     have HB7a:=Lib.hid hb9
     clear v0 v1 vt vs hb8
     have v0:=((HX1.out.1.below hb9 HX1.out.1.lt).cell 0).trans rfl
     have v1:=((HX1.out.1.below hb9 HX1.out.1.lt).cell 1).trans rfl
     have vt:=((HX1.out.2.below hb9 HX1.out.2.lt).cell 3).trans rfl
     have vs:=((HX1.out.2.below hb9 HX1.out.2.lt).cell 4).trans rfl
     clear hb9
     have hbw:=heap1 w7 (.cells #[.int .i64 1] 3)
     have hb7:=bt HB7a.out hbw
     have HB7:=Lib.hid hb7
     have hS7:=ints_one w7 1
     obtain⟨W7,hW7⟩:∃W7,w7.alloc (.cells #[.int .i64 1] 3)=W7:=⟨_,rfl⟩
     rw[hW7]at hbw hb7 HB7 hS7
     have u0:=((HX1.out.1.below hb7 HX1.out.1.lt).cell 0).trans rfl
     have u1:=((HX1.out.1.below hb7 HX1.out.1.lt).cell 1).trans rfl
     have ut:=((HX1.out.2.below hb7 HX1.out.2.lt).cell 3).trans rfl
     have us:=((HX1.out.2.below hb7 HX1.out.2.lt).cell 4).trans rfl
     have HPA:=Lib.hid (params_any (HT1.out.below hb7) c q (HPR.out q HQ1.out))
     have hqz:(q:Int)<(n:Int):=by have:=HPR.out q HQ1.out;omega
     have HVAL:=Lib.hid (show clA l p=resA l p (sgP l q) (ndA l q).n by
      unfold clA
      rw[if_neg HNO.out,HD1.out,HQ1.out]
      rfl)
     have HXL:=Lib.hid (show(sgP l q).length≤4001 from by
      have h2:q<l.length:=(prF_lt HQ1.out).1
      have h3:(sgP l q).length≤(ndA l q).ks.length:=sgX_len l _
      have h4:=HT1.out.tt.kids _ (List.getElem_mem h2)
      rw[← ndA_eq h2]at h4
      omega)
     clear hbw hS7
     go_wp2_with (go_at_call 42;refine HPA.out.mono ?_)
     rintro e w8 ⟨S,cS,rfl,hS8,hb8⟩
     have hb9:=bt HB7.out hb8
     have HB9:=Lib.hid hb9
     have HSX:=Lib.hid hS8
     obtain⟨bB2,off3,_,_,e3,yt,_,y1,_⟩:=(HT1.out.below hb9).node (HPR.out q HQ1.out)
     cases e3
     clear v0 v1 vt vs u0 u1 ut us
     have v0:=((HX1.out.1.below hb9 HX1.out.1.lt).cell 0).trans rfl
     have v1:=((HX1.out.1.below hb9 HX1.out.1.lt).cell 1).trans rfl
     have vt:=((HX1.out.2.below hb9 HX1.out.2.lt).cell 3).trans rfl
     have vs:=((HX1.out.2.below hb9 HX1.out.2.lt).cell 4).trans rfl
     clear hb7 hb8 hb9 hS8 yt
     obtain⟨xs,hxs⟩:∃xs,sgP l q=xs:=⟨_,rfl⟩
     rw[hxs]at HVAL HXL HSX ⊢
     obtain⟨xn,hxn⟩:∃xn,xs.length=xn:=⟨_,rfl⟩
     rw[hxn]at HXL ⊢
     have HXN:=Lib.hid hxn
     clear hxn
     obtain⟨an,han⟩:∃an,(ndA l q).n=an:=⟨_,rfl⟩
     rw[han]at HVAL y1
     clear hxs han HPA
     go_upto_region 14 with(fail)
     clear y1
     by_cases hlen:m=xn+1
     ·have HKL:=Lib.hid (show ks0.length=xs.length by have:=HM.out;have:=HXN.out;omega)
      have hxl:xn≤4001:=HXL.out
      have hcm:(m:Int)=(xn:Int)+1:=by omega
      have HMX:=Lib.hid hlen
      clear hlen
      by_cases ha:an=0
      ·have ha1:(an==0)=true:=by simp[ha]
       have HV:=Lib.hid (show resA l p xs an=5 from res_text HTX0.out (Or.inl ha))
       have HE:=Lib.hid (bt HB0.out (bt HB1.out HB9.out))
       clear ha
       go_wp2
       go_ret
       exact⟨by rw[HVAL.out,HV.out];try rfl,HE.out⟩
      ·have ha1:(an==0)=false:=beq_eq_false_iff_ne.2 ha
       have HAN:=Lib.hid ha
       clear ha
       go_wp2_with (go_at_call 104;refine(HKD.out _ HB9.out).mono ?_)
       rintro e w8 ⟨rfl,hb8⟩
       have hb9:=bt HB9.out hb8
       have HB8:=Lib.hid hb9
       have HSX8:=Lib.hid (HSX.out.below hb8)
       clear v0 v1 vt vs HSX
       have HSX:=HSX8
       clear HSX8
       have v0:=((HX1.out.1.below hb9 HX1.out.1.lt).cell 0).trans rfl
       have v1:=((HX1.out.1.below hb9 HX1.out.1.lt).cell 1).trans rfl
       have vt:=((HX1.out.2.below hb9 HX1.out.2.lt).cell 3).trans rfl
       have vs:=((HX1.out.2.below hb9 HX1.out.2.lt).cell 4).trans rfl
       clear hb8 hb9
       by_cases hv:vt0=an
       ·have hv1:(vt0 != an)=false:=by simp[hv]
        have HTX:=Lib.hid (show(ndA l p).tx=⟨#[]⟩∨((an:Int)≠0∧vrT l p=an)from Or.inr ⟨HAN.out,by rw[HVT.out];exact hv⟩)
        clear hv
        have HSY:=Lib.hid (fun W' (k:Below w8.heap.size w8 W')=>HSX.out.below k)
        go_wp2
        clear vt vs v0 v1 hcm
        go_loopg [11] xn (fun g v wr=>∃j:Nat,v = .int .i64 (j:Int)∧j≤xn∧g=xn-j∧(∀i (h1:i<ks0.length) (h2:i<xs.length),i<j→typA l (ks0[i]).toNat=xs[i])∧Below w8.heap.size w8 wr)
        case atStart=>exact⟨0,rfl,Nat.zero_le _,rfl,fun i _ _ h=>absurd h (Nat.not_lt_zero _),Below.refl _ _⟩
        case round=>
         obtain⟨j,rfl,hj,rfl,hok,hb⟩:=hrel
         have HOK:=Lib.hid hok
         have hb2:=bt HB8.out hb
         have HB:=Lib.hid hb
         obtain⟨W9,rfl⟩:∃W9,W9=wr:=⟨_,rfl⟩
         clear hok
         by_cases hjm:j<xn
         ·have hjz:(j:Int)<(xn:Int):=by omega
          have hjx:j<xs.length:=by rw[HXN.out];exact hjm
          have hjk:j<ks0.length:=by have:=HKL.out;omega
          obtain⟨q,hq,hqn⟩:=HKQ.out _ (List.getElem_mem hjk)
          obtain⟨bS,oS,rfl,hbS,hcS⟩:=HSY.out W9 hb (by omega)
          have hsj:=hcS j hjx
          obtain⟨bK2,oK2,hK2,hbK,hcK⟩:=HI.out (by rw[HHKS.out];simp)
          cases hK2
          have hkj0:=hcK (j+1) (by rw[HHKS.out];simp only[List.length_cons];omega)
          have hkj:W1.cell? ⟨bK,oK+(j+1),none⟩=some (.int .i64 (q:Int)):=by rw[hkj0];simp only[HHKS.out,List.getElem_cons_succ,hq]
          clear hkj0
          have hkj9:=(hb2.cell (p:=⟨bK,oK+(j+1),none⟩) hbK).trans hkj
          have HTY:=Lib.hid (fun W' (k:Below W9.heap.size W9 W')=>typed_any (HT1.out.below (bt hb2 k)) c q hqn)
          have HQV:=Lib.hid (show typA l (ks0[j]).toNat=typA l q by rw[hq];rfl)
          have v0:=((HX1.out.1.below hb2 HX1.out.1.lt).cell 0).trans rfl
          have v1:=((HX1.out.1.below hb2 HX1.out.1.lt).cell 1).trans rfl
          have vs:=((HX1.out.2.below hb2 HX1.out.2.lt).cell 4).trans rfl
          have s0:=cell_regrown v0
          have s1:=cell_regrown v1
          have s2:=cell_regrown vs
          have s3:=cell_regrown hkj9
          have s4:=cell_regrown hsj
          obtain⟨jn,hjn⟩:∃jn,j+1=jn:=⟨_,rfl⟩
          have hj1:wrap64 ((j:Int)+1)=(jn:Int):=by rw[← hjn];exact w64_succ j (Nat.le_trans hj hxl)
          have hjn2:jn<m:=by rw[← hjn,HMX.out];exact Nat.succ_lt_succ hjm
          have hjn3:(jn:Int)<(m:Int):=Int.ofNat_lt.2 hjn2
          rw[hjn]at s3
          clear hjn hjn2
          have HJN:=Lib.hid hjk
          have HJX:=Lib.hid hjx
          obtain⟨xj,hxj⟩:∃xj,xs[j]'hjx=xj:=⟨_,rfl⟩
          rw[hxj]at hsj s4
          have HXJ:=Lib.hid hxj
          have cq:∀d os,Calls Tryz.prog 78 #[.agg #[.slice (some ⟨bA,off,none⟩) n c,.int .i64 r],.int .i64 (q:Int)] (grow (redrawn W9 d) os) fun e w''=>e = .returned (.int .i64 (typA l q))∧∃p:Regrown,w''=grow (redrawn W9 p.d) p.os:=fun d os=>Calls.regrown_of (HTY.out _ (below_regrown W9 d os))
          clear hq hcS hcK hkj hkj9 hsj hb hb2 v0 v1 vs HTY hxj
          generalize typA l q=tq at *
          have HJ:=Lib.hid (And.intro hj (And.intro hjm hxl))
          clear hj hjm hxl hm4 hmz hqz hq0 hkz hpz hqn
          by_cases e:tq=xj
          ·have h1:(tq != xj)=false:=by simp[e]
           have HEQ:=Lib.hid e
           clear e
           go_upto_region 19 with(fail)
           refine wp_region_quiet_below (by kernel_rfl) (by kernel_rfl) ?_
           iterate 5 (go_big_quiet_step (first|exact cq _ _))
           rw[hj1]
           repeat (go_big_quiet_step (first|exact cq _ _))
           refine wpQuiet_nil ?_
           intro _ hw'
           obtain⟨⟨dq,osq⟩,hw''⟩:=hw'
           subst hw''
           have hbq:=below_regrown W9 dq osq
           generalize grow (redrawn W9 dq) osq=W10 at *
           have HB10:=Lib.hid (HB.out.trans (hbq.mono HB.out.size))
           clear s0 s1 s2 s3 s4 hbq cq
           have HG:=Lib.hid (show∀i (h1:i<ks0.length) (h2:i<xs.length),i<j+1→typA l (ks0[i]).toNat=xs[i]from fun i h1 h2 h3=>by
            rcases Nat.lt_or_eq_of_le (Nat.le_of_lt_succ h3)with h4 |h4
            ·exact HOK.out i h1 h2 h4
            ·subst h4
             rw[HQV.out,HXJ.out];exact HEQ.out)
           have hj:=HJ.out.1
           have hjm:=HJ.out.2.1
           have hxl:=HJ.out.2.2
           go_wp2
           go_roundg (xn-(j+1))
           case measure=>go_light;omega
           case rel=>
            go_light
            exact⟨j+1,by go_num,by omega,rfl,HG.out,HB10.out⟩
          ·have h1:(tq != xj)=true:=by simp[e]
           have HEQ:=Lib.hid e
           clear e
           go_upto_region 19 with(fail)
           refine wp_region_quiet_below (by kernel_rfl) (by kernel_rfl) ?_
           iterate 5 (go_big_quiet_step (first|exact cq _ _))
           rw[hj1]
           repeat (go_big_quiet_step (first|exact cq _ _))
           refine wpQuiet_nil ?_
           intro _ hw'
           obtain⟨⟨dq,osq⟩,hw''⟩:=hw'
           subst hw''
           have hbq:=below_regrown W9 dq osq
           generalize grow (redrawn W9 dq) osq=W10 at *
           have HE:=Lib.hid (bt HB0.out (bt HB1.out (bt HB8.out (HB.out.trans (hbq.mono HB.out.size)))))
           clear s0 s1 s2 s3 s4 hbq cq
           have HV:=Lib.hid (show resA l p xs an=5 by
            rw[res_row HHKS.out HKL.out HTX.out,if_neg (row_no HJN.out HJX.out (by rw[HQV.out,HXJ.out];exact HEQ.out))])
           go_wp2
           go_ret
           exact⟨by rw[HVAL.out,HV.out];try rfl,HE.out⟩
         ·obtain rfl:j=xn:=by omega
          have hjz:¬(j:Int)<(j:Int):=by omega
          have HV:=Lib.hid (show resA l p xs an=0 by
           rw[res_row HHKS.out HKL.out HTX.out,if_pos (row_yes HKL.out fun i h1 h2=>HOK.out i h1 h2 (by have:=HXN.out;omega))])
          have HE:=Lib.hid (bt HB0.out (bt HB1.out hb2))
          clear hb hb2
          go_wp2
          go_ret
          exact⟨by rw[HVAL.out,HV.out];try rfl,HE.out⟩
       ·have hv1:(vt0 != an)=true:=by simp[hv]
        have HV:=Lib.hid (show resA l p xs an=5 from res_text HTX0.out (Or.inr (by rw[HVT.out];exact hv)))
        have HE:=Lib.hid (bt HB0.out (bt HB1.out HB8.out))
        clear hv
        go_wp2
        go_ret
        exact⟨by rw[HVAL.out,HV.out];try rfl,HE.out⟩
     ·have hxl:xn≤4001:=HXL.out
      have hcm:¬(m:Int)=(xn:Int)+1:=by omega
      have HV:=Lib.hid (show resA l p xs an=5 from res_len (by rw[HHKS.out,List.length_cons];have:=HM.out;have:=HXN.out;omega))
      have HE:=Lib.hid (bt HB0.out (bt HB1.out HB9.out))
      clear hlen
      go_wp2
      go_ret
      exact⟨by rw[HVAL.out,HV.out];try rfl,HE.out⟩
 |some d=>
  rw[h1,show optZ (some d)=(d:Int)from rfl]at HMN
  have hd0:¬(d:Int)<0:=by omega
  have HD1:=Lib.hid h1
  clear h1
  by_cases htx:(ndA l p).tx=⟨#[]⟩
  ·have HTX0:=Lib.hid htx
   have HNO:=Lib.hid (show¬(((dnA l p (calN l p)).isNone=true∧(prF l (calN l p) 0).isNone=true)∨((ndA l p).tx≠⟨#[]⟩∧(dnA l p (ndA l p).tx).isNone=true)) by
    rintro(⟨h1,h2⟩ |⟨h1,_⟩)
    ·rw[HD1.out]at h1;cases h1
    ·exact h1 htx)
   rw[htx]at x3 et hW1 HX1
   clear htx HMT HKD
   go_enter Tryz.func79,Tryz.ntmps79
   go_upto_region 2 with(fail)
   refine wp_region_quiet_below (by kernel_rfl) (by kernel_rfl) ?_
   repeat (go_big_quiet_step (first|fail))
   refine wpQuiet_nil ?_
   intro _ hw'
   obtain⟨⟨dq,osq⟩,hw''⟩:=hw'
   subst hw''
   have hbq:=below_regrown W1 dq osq
   generalize grow (redrawn W1 dq) osq=W4 at *
   have HB4:=Lib.hid hbq
   clear s0 s1 s2 s3 s4 e0 e1 et es
   have v0:=((HX1.out.1.below hbq HX1.out.1.lt).cell 0).trans rfl
   have v1:=((HX1.out.1.below hbq HX1.out.1.lt).cell 1).trans rfl
   have vt:=((HX1.out.2.below hbq HX1.out.2.lt).cell 3).trans rfl
   have vs:=((HX1.out.2.below hbq HX1.out.2.lt).cell 4).trans rfl
   clear hbq
   go_wp2_with (go_at_call 102;refine(HMN.out _ HB4.out).mono ?_)
   rintro e w5 ⟨rfl,hb5⟩
   have hb6:=bt HB4.out hb5
   have HB5:=Lib.hid hb6
   clear v0 v1 vt vs hb5
   have v0:=((HX1.out.1.below hb6 HX1.out.1.lt).cell 0).trans rfl
   have v1:=((HX1.out.1.below hb6 HX1.out.1.lt).cell 1).trans rfl
   have vt:=((HX1.out.2.below hb6 HX1.out.2.lt).cell 3).trans rfl
   have vs:=((HX1.out.2.below hb6 HX1.out.2.lt).cell 4).trans rfl
   clear hb6
   go_wp2_with (go_at_call 41;refine(HOF.out _ HB5.out).mono ?_)
   rintro e w6 ⟨rfl,hb7⟩
   have hb6:=bt HB5.out hb7
   have HB6:=Lib.hid hb6
   clear v0 v1 vt vs hb7
   have v0:=((HX1.out.1.below hb6 HX1.out.1.lt).cell 0).trans rfl
   have v1:=((HX1.out.1.below hb6 HX1.out.1.lt).cell 1).trans rfl
   have vt:=((HX1.out.2.below hb6 HX1.out.2.lt).cell 3).trans rfl
   have vs:=((HX1.out.2.below hb6 HX1.out.2.lt).cell 4).trans rfl
   clear hb6
   have hbw:=heap1 w6 (.cells #[.int .i64 1] 3)
   have hb7:=bt HB6.out hbw
   have HB7:=Lib.hid hb7
   have hS7:=ints_one w6 1
   obtain⟨W7,hW7⟩:∃W7,w6.alloc (.cells #[.int .i64 1] 3)=W7:=⟨_,rfl⟩
   rw[hW7]at hbw hb7 HB7 hS7
   have u0:=((HX1.out.1.below hb7 HX1.out.1.lt).cell 0).trans rfl
   have u1:=((HX1.out.1.below hb7 HX1.out.1.lt).cell 1).trans rfl
   have ut:=((HX1.out.2.below hb7 HX1.out.2.lt).cell 3).trans rfl
   have us:=((HX1.out.2.below hb7 HX1.out.2.lt).cell 4).trans rfl
   have HSX:=Lib.hid hS7
   obtain⟨bB2,off3,_,_,e3,yt,_,y1,_⟩:=(HT1.out.below hb7).node (HDR.out d _ HD1.out)
   cases e3
   have hdz:(d:Int)<(n:Int):=by have:=HDR.out d _ HD1.out;omega
   clear hbw hb7 hS7 yt
   by_cases hn4:(ndA l d).n=4
   ·have HVAL:=Lib.hid (show clA l p=resA l p [1] 1 by
     unfold clA
     rw[if_neg HNO.out,HD1.out]
     show(if (ndA l d).n≠4 then 5 else resA l p [1] 1)=_
     rw[if_neg (fun h=>h hn4)])
    rw[hn4]at y1
    clear hn4
    go_upto_region 14 with(fail)
    clear v0 v1 vt vs y1
    have v0:=u0
    have v1:=u1
    have vt:=ut
    have vs:=us
    clear u0 u1 ut us
    by_cases hlen:m=2
    ·obtain⟨kk,hkk⟩:=len_one (show ks0.length=1 by have:=HM.out;omega)
     subst hkk
     subst hlen
     have HTX:=Lib.hid (show(ndA l p).tx=⟨#[]⟩∨((1:Int)≠0∧vrT l p=1)from Or.inl HTX0.out)
     obtain⟨q,hq,hqn⟩:=HKQ.out kk (by simp)
     subst hq
     obtain⟨bK2,oK2,hK2,hbK,hcK⟩:=HI.out (by rw[HHKS.out];simp)
     cases hK2
     have hkj:=hcK 1 (by rw[HHKS.out];simp)
     have hkj:W1.cell? ⟨bK,oK+1,none⟩=some (.int .i64 (q:Int)):=by rw[hkj];simp only[HHKS.out];rfl
     have HKJ:=Lib.hid (And.intro hbK hkj)
     have HTQ:=Lib.hid (fun W' (k:Below W1.heap.size W1 W')=>typed_any (HT1.out.below k) c q hqn)
     have HSY:=Lib.hid (fun W' (k:Below W7.heap.size W7 W')=>HSX.out.below k)
     clear hcK hkj hqn
     go_wp2
     clear vt vs v0 v1
     go_loopg [11] 2 (fun g v wr=>((v = .int .i64 0∧g=2)∨(v = .int .i64 1∧g=1∧typA l q=1))∧Below W7.heap.size W7 wr)
     case atStart=>exact⟨Or.inl ⟨rfl,rfl⟩,Below.refl _ _⟩
     case round=>
      obtain⟨hrel,hb⟩:=hrel
      have hb2:=bt HB7.out hb
      have HB:=Lib.hid hb
      obtain⟨W9,rfl⟩:∃W9,W9=wr:=⟨_,rfl⟩
      rcases hrel with⟨rfl,rfl⟩ |⟨rfl,rfl,ht⟩
      ·obtain⟨bS,oS,hSe,hbS,hcS⟩:=HSY.out W9 hb (by simp)
       cases hSe
       have hsj:W9.cell? ⟨_,0,none⟩=some (.int .i64 1):=hcS 0 (by simp)
       have hkj9:=(hb2.cell (p:=⟨bK,oK+1,none⟩) HKJ.out.1).trans HKJ.out.2
       have v0:=((HX1.out.1.below hb2 HX1.out.1.lt).cell 0).trans rfl
       have v1:=((HX1.out.1.below hb2 HX1.out.1.lt).cell 1).trans rfl
       have vs:=((HX1.out.2.below hb2 HX1.out.2.lt).cell 4).trans rfl
       have HTY:=Lib.hid (fun W' (k:Below W9.heap.size W9 W')=>HTQ.out W' (bt hb2 k))
       have s0:=cell_regrown v0
       have s1:=cell_regrown v1
       have s2:=cell_regrown vs
       have s3:=cell_regrown hkj9
       have s4:=cell_regrown hsj
       have cq:∀d os,Calls Tryz.prog 78 #[.agg #[.slice (some ⟨bA,off,none⟩) n c,.int .i64 r],.int .i64 (q:Int)] (grow (redrawn W9 d) os) fun e w''=>e = .returned (.int .i64 (typA l q))∧∃p:Regrown,w''=grow (redrawn W9 p.d) p.os:=fun d os=>Calls.regrown_of (HTY.out _ (below_regrown W9 d os))
       clear hcS hkj9 hsj hb hb2 v0 v1 vs HTY
       by_cases e:typA l q=1
       ·have HEQ:=Lib.hid e
        rw[e]at cq
        clear e
        go_upto_region 19 with(fail)
        refine wp_region_quiet_below (by kernel_rfl) (by kernel_rfl) ?_
        repeat (go_big_quiet_step (first|exact cq _ _))
        refine wpQuiet_nil ?_
        intro _ hw'
        obtain⟨⟨dq,osq⟩,hw''⟩:=hw'
        subst hw''
        have hbq:=below_regrown W9 dq osq
        generalize grow (redrawn W9 dq) osq=W10 at *
        have HB10:=Lib.hid (HB.out.trans (hbq.mono HB.out.size))
        clear s0 s1 s2 s3 s4 hbq cq
        go_wp2
        go_roundg 1
        case measure=>go_light;omega
        case rel=>
         go_light
         exact⟨Or.inr ⟨by first|rfl |go_num,rfl,HEQ.out⟩,HB10.out⟩
       ·have HEQ:=Lib.hid e
        have h1:(typA l q != 1)=true:=by simp[e]
        clear e
        go_upto_region 19 with(fail)
        refine wp_region_quiet_below (by kernel_rfl) (by kernel_rfl) ?_
        repeat (go_big_quiet_step (first|exact cq _ _))
        refine wpQuiet_nil ?_
        intro _ hw'
        obtain⟨⟨dq,osq⟩,hw''⟩:=hw'
        subst hw''
        have hbq:=below_regrown W9 dq osq
        generalize grow (redrawn W9 dq) osq=W10 at *
        have HE:=Lib.hid (bt HB0.out (bt HB1.out (bt HB7.out (HB.out.trans (hbq.mono HB.out.size)))))
        clear s0 s1 s2 s3 s4 hbq cq
        have HV:=Lib.hid (show resA l p [1] 1=5 by
         rw[res_row (want:=[1]) (answer:=1) HHKS.out rfl HTX.out,if_neg (fun h2=>HEQ.out (by have:=(List.cons.inj h2).1;exact this))])
        go_wp2
        go_ret
        exact⟨by rw[HVAL.out,HV.out];try rfl,HE.out⟩
      ·have HV:=Lib.hid (show resA l p [1] 1=0 by
        rw[res_row (want:=[1]) (answer:=1) HHKS.out rfl HTX.out,if_pos (show([(q:Int)].map fun k=>typA l k.toNat)=[1] from(show[typA l q]=[1]by rw[ht]))])
       have HE:=Lib.hid (bt HB0.out (bt HB1.out hb2))
       clear hb hb2 ht
       go_wp2
       go_ret
       exact⟨by rw[HVAL.out,HV.out];try rfl,HE.out⟩
    ·have hmm:((m:Int) != 2)=true:=by rw[bne,beq_eq_false_iff_ne.2 (show((m:Int))≠2 by omega)];rfl
     have HV:=Lib.hid (show resA l p [1] 1=5 from res_len (by rw[HHKS.out,List.length_cons];have:=HM.out;simp;omega))
     have HE:=Lib.hid (bt HB0.out (bt HB1.out HB7.out))
     clear hlen
     go_wp2
     go_ret
     exact⟨by rw[HVAL.out,HV.out];try rfl,HE.out⟩
   ·have HVAL:=Lib.hid (show clA l p=5 by
     unfold clA
     rw[if_neg HNO.out,HD1.out]
     show(if (ndA l d).n≠4 then 5 else resA l p [1] 1)=_
     rw[if_pos hn4])
    have hn5:((ndA l d).n != 4)=true:=by simp[hn4]
    have HE:=Lib.hid (bt HB0.out (bt HB1.out HB7.out))
    clear hn4
    generalize (ndA l (d:Int)).n=dn at *
    go_wp2
    go_ret
    exact⟨by rw[HVAL.out];try rfl,HE.out⟩
  ·have HTX0:=Lib.hid htx
   have htb:=lst_ne htx
   have htn:((ndA l p).tx.toList != [])=true:=by rw[bne,htb];rfl
   clear htx
   cases h3:dnA l p (ndA l p).tx with
   |none=>
    have HVAL:=Lib.hid (show clA l p=3 by unfold clA;rw[if_pos (Or.inr ⟨HTX0.out,by rw[h3];rfl⟩)])
    rw[h3,show optZ none = -1 from rfl]at HMT
    clear h3 HKD
    go_enter Tryz.func79,Tryz.ntmps79
    go_upto_region 2 with(fail)
    refine wp_region_quiet_below (by kernel_rfl) (by kernel_rfl) ?_
    repeat (go_big_quiet_step (first|fail))
    refine wpQuiet_nil ?_
    intro _ hw'
    obtain⟨⟨dq,osq⟩,hw''⟩:=hw'
    subst hw''
    have hbq:=below_regrown W1 dq osq
    generalize grow (redrawn W1 dq) osq=W4 at *
    have HB4:=Lib.hid hbq
    clear s0 s1 s2 s3 s4 e0 e1 et es
    have v0:=((HX1.out.1.below hbq HX1.out.1.lt).cell 0).trans rfl
    have v1:=((HX1.out.1.below hbq HX1.out.1.lt).cell 1).trans rfl
    have vt:=((HX1.out.2.below hbq HX1.out.2.lt).cell 3).trans rfl
    have vs:=((HX1.out.2.below hbq HX1.out.2.lt).cell 4).trans rfl
    clear hbq
    go_wp2_with (go_at_call 102;refine(HMN.out _ HB4.out).mono ?_)
    rintro e w5 ⟨rfl,hb5⟩
    have hb6:=bt HB4.out hb5
    have HB5:=Lib.hid hb6
    clear v0 v1 vt vs hb5
    have v0:=((HX1.out.1.below hb6 HX1.out.1.lt).cell 0).trans rfl
    have v1:=((HX1.out.1.below hb6 HX1.out.1.lt).cell 1).trans rfl
    have vt:=((HX1.out.2.below hb6 HX1.out.2.lt).cell 3).trans rfl
    have vs:=((HX1.out.2.below hb6 HX1.out.2.lt).cell 4).trans rfl
    clear hb6
    go_wp2_with (go_at_call 41;refine(HOF.out _ HB5.out).mono ?_)
    rintro e w6 ⟨rfl,hb7⟩
    have hb6:=bt HB5.out hb7
    have HB6:=Lib.hid hb6
    clear v0 v1 vt vs hb7
    have v0:=((HX1.out.1.below hb6 HX1.out.1.lt).cell 0).trans rfl
    have v1:=((HX1.out.1.below hb6 HX1.out.1.lt).cell 1).trans rfl
    have vt:=((HX1.out.2.below hb6 HX1.out.2.lt).cell 3).trans rfl
    have vs:=((HX1.out.2.below hb6 HX1.out.2.lt).cell 4).trans rfl
    clear hb6
    go_wp2_with (go_at_call 102;refine(HMT.out _ HB6.out).mono ?_)
    rintro e w7 ⟨rfl,hb8⟩
    have HE:=Lib.hid (bt HB0.out (bt HB1.out (bt HB6.out hb8)))
    clear hb8 v0 v1 vt vs
    go_wp2
    go_ret
    exact⟨by rw[HVAL.out];try rfl,HE.out⟩
   |some d2=>
    have HNO:=Lib.hid (show¬(((dnA l p (calN l p)).isNone=true∧(prF l (calN l p) 0).isNone=true)∨((ndA l p).tx≠⟨#[]⟩∧(dnA l p (ndA l p).tx).isNone=true)) by
     rintro(⟨h1,h2⟩ |⟨_,h1⟩)
     ·rw[HD1.out]at h1;cases h1
     ·rw[h3]at h1;cases h1)
    rw[h3,show optZ (some d2)=(d2:Int)from rfl]at HMT
    have hd20:¬(d2:Int)<0:=by omega
    clear h3
    go_enter Tryz.func79,Tryz.ntmps79
    go_upto_region 2 with(fail)
    refine wp_region_quiet_below (by kernel_rfl) (by kernel_rfl) ?_
    repeat (go_big_quiet_step (first|fail))
    refine wpQuiet_nil ?_
    intro _ hw'
    obtain⟨⟨dq,osq⟩,hw''⟩:=hw'
    subst hw''
    have hbq:=below_regrown W1 dq osq
    generalize grow (redrawn W1 dq) osq=W4 at *
    have HB4:=Lib.hid hbq
    clear s0 s1 s2 s3 s4 e0 e1 et es
    have v0:=((HX1.out.1.below hbq HX1.out.1.lt).cell 0).trans rfl
    have v1:=((HX1.out.1.below hbq HX1.out.1.lt).cell 1).trans rfl
    have vt:=((HX1.out.2.below hbq HX1.out.2.lt).cell 3).trans rfl
    have vs:=((HX1.out.2.below hbq HX1.out.2.lt).cell 4).trans rfl
    clear hbq
    go_wp2_with (go_at_call 102;refine(HMN.out _ HB4.out).mono ?_)
    rintro e w5 ⟨rfl,hb5⟩
    have hb6:=bt HB4.out hb5
    have HB5:=Lib.hid hb6
    clear v0 v1 vt vs hb5
    have v0:=((HX1.out.1.below hb6 HX1.out.1.lt).cell 0).trans rfl
    have v1:=((HX1.out.1.below hb6 HX1.out.1.lt).cell 1).trans rfl
    have vt:=((HX1.out.2.below hb6 HX1.out.2.lt).cell 3).trans rfl
    have vs:=((HX1.out.2.below hb6 HX1.out.2.lt).cell 4).trans rfl
    clear hb6
    go_wp2_with (go_at_call 41;refine(HOF.out _ HB5.out).mono ?_)
    rintro e w6 ⟨rfl,hb7⟩
    have hb6:=bt HB5.out hb7
    have HB6:=Lib.hid hb6
    clear v0 v1 vt vs hb7
    have v0:=((HX1.out.1.below hb6 HX1.out.1.lt).cell 0).trans rfl
    have v1:=((HX1.out.1.below hb6 HX1.out.1.lt).cell 1).trans rfl
    have vt:=((HX1.out.2.below hb6 HX1.out.2.lt).cell 3).trans rfl
    have vs:=((HX1.out.2.below hb6 HX1.out.2.lt).cell 4).trans rfl
    clear hb6
    go_wp2_with (go_at_call 102;refine(HMT.out _ HB6.out).mono ?_)
    rintro e w7 ⟨rfl,hb8⟩
    have hb9:=bt HB6.out hb8
    have HB7a:=Lib.hid hb9
    clear v0 v1 vt vs hb8
    have v0:=((HX1.out.1.below hb9 HX1.out.1.lt).cell 0).trans rfl
    have v1:=((HX1.out.1.below hb9 HX1.out.1.lt).cell 1).trans rfl
    have vt:=((HX1.out.2.below hb9 HX1.out.2.lt).cell 3).trans rfl
    have vs:=((HX1.out.2.below hb9 HX1.out.2.lt).cell 4).trans rfl
    clear hb9
    have hbw:=heap1 w7 (.cells #[.int .i64 1] 3)
    have hb7:=bt HB7a.out hbw
    have HB7:=Lib.hid hb7
    have hS7:=ints_one w7 1
    obtain⟨W7,hW7⟩:∃W7,w7.alloc (.cells #[.int .i64 1] 3)=W7:=⟨_,rfl⟩
    rw[hW7]at hbw hb7 HB7 hS7
    have u0:=((HX1.out.1.below hb7 HX1.out.1.lt).cell 0).trans rfl
    have u1:=((HX1.out.1.below hb7 HX1.out.1.lt).cell 1).trans rfl
    have ut:=((HX1.out.2.below hb7 HX1.out.2.lt).cell 3).trans rfl
    have us:=((HX1.out.2.below hb7 HX1.out.2.lt).cell 4).trans rfl
    have HSX:=Lib.hid hS7
    obtain⟨bB2,off3,_,_,e3,yt,_,y1,_⟩:=(HT1.out.below hb7).node (HDR.out d _ HD1.out)
    cases e3
    have hdz:(d:Int)<(n:Int):=by have:=HDR.out d _ HD1.out;omega
    clear hbw hb7 hS7 yt
    by_cases hn4:(ndA l d).n=4
    ·have HVAL:=Lib.hid (show clA l p=resA l p [1] 1 by
      unfold clA
      rw[if_neg HNO.out,HD1.out]
      show(if (ndA l d).n≠4 then 5 else resA l p [1] 1)=_
      rw[if_neg (fun h=>h hn4)])
     rw[hn4]at y1
     clear hn4
     go_upto_region 14 with(fail)
     clear v0 v1 vt vs y1
     have v0:=u0
     have v1:=u1
     have vt:=ut
     have vs:=us
     clear u0 u1 ut us
     by_cases hlen:m=2
     ·obtain⟨kk,hkk⟩:=len_one (show ks0.length=1 by have:=HM.out;omega)
      subst hkk
      subst hlen
      go_wp2_with (go_at_call 104;refine(HKD.out _ HB7.out).mono ?_)
      rintro e w8 ⟨rfl,hb8⟩
      have hb9:=bt HB7.out hb8
      have HB8:=Lib.hid hb9
      have HSX8:=Lib.hid (HSX.out.below hb8)
      clear v0 v1 vt vs HSX
      have HSX:=HSX8
      clear HSX8
      have v0:=((HX1.out.1.below hb9 HX1.out.1.lt).cell 0).trans rfl
      have v1:=((HX1.out.1.below hb9 HX1.out.1.lt).cell 1).trans rfl
      have vt:=((HX1.out.2.below hb9 HX1.out.2.lt).cell 3).trans rfl
      have vs:=((HX1.out.2.below hb9 HX1.out.2.lt).cell 4).trans rfl
      clear hb8 hb9
      by_cases hv:vt0=1
      ·have hv1:(vt0 != 1)=false:=by simp[hv]
       have HTX:=Lib.hid (show(ndA l p).tx=⟨#[]⟩∨((1:Int)≠0∧vrT l p=1)from Or.inr ⟨by decide,by rw[HVT.out];exact hv⟩)
       clear hv
       obtain⟨q,hq,hqn⟩:=HKQ.out kk (by simp)
       subst hq
       obtain⟨bK2,oK2,hK2,hbK,hcK⟩:=HI.out (by rw[HHKS.out];simp)
       cases hK2
       have hkj:=hcK 1 (by rw[HHKS.out];simp)
       have hkj:W1.cell? ⟨bK,oK+1,none⟩=some (.int .i64 (q:Int)):=by rw[hkj];simp only[HHKS.out];rfl
       have HKJ:=Lib.hid (And.intro hbK hkj)
       have HTQ:=Lib.hid (fun W' (k:Below W1.heap.size W1 W')=>typed_any (HT1.out.below k) c q hqn)
       have HSY:=Lib.hid (fun W' (k:Below w8.heap.size w8 W')=>HSX.out.below k)
       clear hcK hkj hqn
       go_wp2
       clear vt vs v0 v1
       go_loopg [11] 2 (fun g v wr=>((v = .int .i64 0∧g=2)∨(v = .int .i64 1∧g=1∧typA l q=1))∧Below w8.heap.size w8 wr)
       case atStart=>exact⟨Or.inl ⟨rfl,rfl⟩,Below.refl _ _⟩
       case round=>
        obtain⟨hrel,hb⟩:=hrel
        have hb2:=bt HB8.out hb
        have HB:=Lib.hid hb
        obtain⟨W9,rfl⟩:∃W9,W9=wr:=⟨_,rfl⟩
        rcases hrel with⟨rfl,rfl⟩ |⟨rfl,rfl,ht⟩
        ·obtain⟨bS,oS,hSe,hbS,hcS⟩:=HSY.out W9 hb (by simp)
         cases hSe
         have hsj:W9.cell? ⟨_,0,none⟩=some (.int .i64 1):=hcS 0 (by simp)
         have hkj9:=(hb2.cell (p:=⟨bK,oK+1,none⟩) HKJ.out.1).trans HKJ.out.2
         have v0:=((HX1.out.1.below hb2 HX1.out.1.lt).cell 0).trans rfl
         have v1:=((HX1.out.1.below hb2 HX1.out.1.lt).cell 1).trans rfl
         have vs:=((HX1.out.2.below hb2 HX1.out.2.lt).cell 4).trans rfl
         have HTY:=Lib.hid (fun W' (k:Below W9.heap.size W9 W')=>HTQ.out W' (bt hb2 k))
         have s0:=cell_regrown v0
         have s1:=cell_regrown v1
         have s2:=cell_regrown vs
         have s3:=cell_regrown hkj9
         have s4:=cell_regrown hsj
         have cq:∀d os,Calls Tryz.prog 78 #[.agg #[.slice (some ⟨bA,off,none⟩) n c,.int .i64 r],.int .i64 (q:Int)] (grow (redrawn W9 d) os) fun e w''=>e = .returned (.int .i64 (typA l q))∧∃p:Regrown,w''=grow (redrawn W9 p.d) p.os:=fun d os=>Calls.regrown_of (HTY.out _ (below_regrown W9 d os))
         clear hcS hkj9 hsj hb hb2 v0 v1 vs HTY
         by_cases e:typA l q=1
         ·have HEQ:=Lib.hid e
          rw[e]at cq
          clear e
          go_upto_region 19 with(fail)
          refine wp_region_quiet_below (by kernel_rfl) (by kernel_rfl) ?_
          repeat (go_big_quiet_step (first|exact cq _ _))
          refine wpQuiet_nil ?_
          intro _ hw'
          obtain⟨⟨dq,osq⟩,hw''⟩:=hw'
          subst hw''
          have hbq:=below_regrown W9 dq osq
          generalize grow (redrawn W9 dq) osq=W10 at *
          have HB10:=Lib.hid (HB.out.trans (hbq.mono HB.out.size))
          clear s0 s1 s2 s3 s4 hbq cq
          go_wp2
          go_roundg 1
          case measure=>go_light;omega
          case rel=>
           go_light
           exact⟨Or.inr ⟨by first|rfl |go_num,rfl,HEQ.out⟩,HB10.out⟩
         ·have HEQ:=Lib.hid e
          have h1:(typA l q != 1)=true:=by simp[e]
          clear e
          go_upto_region 19 with(fail)
          refine wp_region_quiet_below (by kernel_rfl) (by kernel_rfl) ?_
          repeat (go_big_quiet_step (first|exact cq _ _))
          refine wpQuiet_nil ?_
          intro _ hw'
          obtain⟨⟨dq,osq⟩,hw''⟩:=hw'
          subst hw''
          have hbq:=below_regrown W9 dq osq
          generalize grow (redrawn W9 dq) osq=W10 at *
          have HE:=Lib.hid (bt HB0.out (bt HB1.out (bt HB8.out (HB.out.trans (hbq.mono HB.out.size)))))
          clear s0 s1 s2 s3 s4 hbq cq
          have HV:=Lib.hid (show resA l p [1] 1=5 by
           rw[res_row (want:=[1]) (answer:=1) HHKS.out rfl HTX.out,if_neg (fun h2=>HEQ.out (by have:=(List.cons.inj h2).1;exact this))])
          go_wp2
          go_ret
          exact⟨by rw[HVAL.out,HV.out];try rfl,HE.out⟩
        ·have HV:=Lib.hid (show resA l p [1] 1=0 by
          rw[res_row (want:=[1]) (answer:=1) HHKS.out rfl HTX.out,if_pos (show([(q:Int)].map fun k=>typA l k.toNat)=[1] from(show[typA l q]=[1]by rw[ht]))])
         have HE:=Lib.hid (bt HB0.out (bt HB1.out hb2))
         clear hb hb2 ht
         go_wp2
         go_ret
         exact⟨by rw[HVAL.out,HV.out];try rfl,HE.out⟩
      ·have hv1:(vt0 != 1)=true:=by simp[hv]
       have HV:=Lib.hid (show resA l p [1] 1=5 from res_text HTX0.out (Or.inr (by rw[HVT.out];exact hv)))
       have HE:=Lib.hid (bt HB0.out (bt HB1.out HB8.out))
       clear hv
       go_wp2
       go_ret
       exact⟨by rw[HVAL.out,HV.out];try rfl,HE.out⟩
     ·have hmm:((m:Int) != 2)=true:=by rw[bne,beq_eq_false_iff_ne.2 (show((m:Int))≠2 by omega)];rfl
      have HV:=Lib.hid (show resA l p [1] 1=5 from res_len (by rw[HHKS.out,List.length_cons];have:=HM.out;simp;omega))
      have HE:=Lib.hid (bt HB0.out (bt HB1.out HB7.out))
      clear hlen
      go_wp2
      go_ret
      exact⟨by rw[HVAL.out,HV.out];try rfl,HE.out⟩
    ·have HVAL:=Lib.hid (show clA l p=5 by
      unfold clA
      rw[if_neg HNO.out,HD1.out]
      show(if (ndA l d).n≠4 then 5 else resA l p [1] 1)=_
      rw[if_pos hn4])
     have hn5:((ndA l d).n != 4)=true:=by simp[hn4]
     have HE:=Lib.hid (bt HB0.out (bt HB1.out HB7.out))
     clear hn4
     generalize (ndA l (d:Int)).n=dn at *
     go_wp2
     go_ret
     exact⟨by rw[HVAL.out];try rfl,HE.out⟩
end
end Go.Proofs.YtignojhijmamhaaGreat.Ty
