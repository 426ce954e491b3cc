/- PROVED here: parts Xv Xw of the claim. No condition but those in each theorem's own head. -/
import Derived.Test.YteecfjhjllajlaaGreatDoorM24
import Derived.Test.YteecfjhjllajlaaGreatDoorM32
namespace Go.Proofs.YteecfjhjllajlaaGreatDoor
section
set_option maxHeartbeats 8000000
set_option maxRecDepth 100000
open Go Go.RowKit
open Tr (Bx heap1 bt Nds Ints)
theorem own_ints_at {base n c:Nat}{A:Option Addr}{l:List Int}{w:World}(h:w.ownsRow base 3 1 (.slice A n c) l.length (l.map (Value.int .i64))):Ints w A l:=by
 obtain⟨A',c',e,hI⟩:=own_ints h
 injection e with e1
 rw[e1];exact hI
theorem filt_step {q:Int→Bool}{ks:List Int}{i:Nat}(h:i<ks.length):(ks.take (i+1)).filter q=(ks.take i).filter q++(if q ks[i] then [ks[i]] else []):=by
 rw[List.take_succ_eq_append_getElem h,List.filter_append]
 congr 1
 cases hq:q ks[i]<;>simp[hq]
theorem proc_pg {w0:World}{A:Option Addr}{l:List Tr.Nd}{n:Nat}(c b:Nat)(hx:Px0 w0 A l n)(hcp:Caps w0 A l)(hs:ShOk l)(p:Nat)(t:List UInt8)(w:World)(hp:p<n)(hk:(ndA l p).kd=3)(hb:Below w0.heap.size w0 w)(h:Pg w0.heap.size b t w)(hl:t.length+(prcT l n p).length≤140737488355328) :
  Calls Tryz.prog 120 #[PV A n c b 0,.int .i64 (p:Int)] w (WrPost w0.heap.size b (t++prcT l n p) (.tuple #[]) w):=by
 have hpl:p<l.length:=by rw[← hx.len];exact hp
 obtain⟨ks',bl,e1,hbl,hbk,hks'⟩:=hs.pr p hpl hk
 have hfew:=hs.few p hpl
 have hall:∀k ∈ (ndA l p).ks,∃k2:Nat,k=(k2:Int)∧k2<n:=fun k hk'=>by
  rw[e1]at hk'
  rcases List.mem_append.1 hk' with h |h
  ·obtain⟨k2,e,h2,_⟩:=hks' k h;exact⟨k2,e,by omega⟩
  ·exact⟨bl,List.mem_singleton.1 h,by omega⟩
 have hgl:(ndA l p).ks.getLastD 0=(bl:Int):=by rw[e1];simp
 have hm1:(ndA l p).ks.length=ks'.length+1:=by rw[e1];simp
 have hlast:(ndA l p).ks[ks'.length]?=some (bl:Int):=by rw[e1];simp
 unfold prcT at hl ⊢
 rw[hgl]at hl ⊢
 obtain⟨L4,hL4⟩:∃L4,L4=(ndA l p).ks.filter fun k=>(ndA l k).kd==4:=⟨_,rfl⟩
 obtain⟨L5,hL5⟩:∃L5,L5=(ndA l p).ks.filter fun k=>(ndA l k).kd==5:=⟨_,rfl⟩
 rw[← hL4,← hL5]at hl ⊢
 have hl4:L4.length≤4000:=by rw[hL4];exact Nat.le_trans (List.length_filter_le _ _) hfew
 have hl5:L5.length≤4000:=by rw[hL5];exact Nat.le_trans (List.length_filter_le _ _) hfew
 have h4in:∀k ∈ L4,∃k2:Nat,k=(k2:Int)∧k2<n:=fun k hk'=>hall k (List.mem_filter.1 (by rw[hL4]at hk';exact hk')).1
 have h5in:∀k ∈ L5,∃k2:Nat,k=(k2:Int)∧k2<n:=fun k hk'=>hall k (List.mem_filter.1 (by rw[hL5]at hk';exact hk')).1
 have HLI:=Lib.hid (fun(S:Option Addr) (cc:Nat) t' w' (q:Below w0.heap.size w0 w') (h':Pg w0.heap.size b t' w') (hI:∀w2,Kp w0.heap.size b w' w2→Ints w2 S L4) (hl':t'.length+(lisT (L4.map (tydT l))).length≤140737488355328)=>
  list191_pg A n c b 0 0 S L4.length cc L4 (tydT l) t' w' h' rfl (by omega) hI (fun k hk' t2 w2 q2 h2 hl2=>by
   obtain⟨k2,rfl,hk2⟩:=h4in k hk'
   exact typed_pg c b 0 hx k2 t2 w2 hk2 (q.trans q2.1) h2 hl2) hl')
 have HBK:=Lib.hid (fun(S:Option Addr) (cc:Nat) t' w' (q:Below w0.heap.size w0 w') (h':Pg w0.heap.size b t' w') (hI:∀w2,Kp w0.heap.size b w' w2→Ints w2 S L5) (hl':t'.length+(blkT l (stT l n n) 0 bl L5).length≤140737488355328)=>
  (show Calls Tryz.prog 194 #[PV A n c b 0,.int .i64 (bl:Int),.slice S L5.length cc] w' (WrPost w0.heap.size b (t'++blkT l (stT l n n) 0 bl L5) (.tuple #[]) w')from block_pg c b 0 hx (stT l n n) bl S L5.length cc L5 t' w' (by omega) (by omega) rfl (by omega) (by have:=hs.few bl (by omega);omega) hI h5in (fun k' hk' t2 w2 q2 h2 hl2=>by
   obtain⟨k2,rfl,hlt,hst⟩:=hs.bl bl (by omega) hbk k' hk'
   exact stm_pg c b hx hcp hs n (0+1) k2 t2 w2 (by omega) (by omega) hst (by have:=hx.few;omega) q2 h2 hl2) q h' hl'))
 obtain⟨bA,off,K,cK,rfl,hlt,c0,c1,c2,c3,c4,z5⟩:=node_at hx.nds hb p hpl
 rw[← ndA_eq hpl]at c0 c1 c2 c3 c4 z5
 rw[hk]at c0
 have hpz:(p:Int)<(n:Int):=by omega
 obtain⟨m,hm⟩:∃m,m=(ndA l p).ks.length:=⟨_,rfl⟩
 rw[← hm]at c4 hm1 hfew
 obtain⟨bk,ok,rfl,hbk2,hck0⟩:=z5 (by omega)
 have HCK:=Lib.hid hck0
 have HN:=Lib.hid (show∀(k:Nat),k<n→∀w',Below w0.heap.size w0 w'→w'.cell? ⟨bA,off+k*5,none⟩=some (.int .i64 (ndA l k).kd)from fun k hk2 w' q=>by
  obtain⟨bX,oX,KX,cX,eX,_,q0,_⟩:=node_at hx.nds q k (by rw[← hx.len];exact hk2)
  injection eX with eX
  injection eX with x1 x2
  rw[x1,x2,ndA_eq (by rw[← hx.len];exact hk2)]
  exact q0)
 obtain⟨F4,hF4⟩:∃F:Nat→List Int,F=fun i=>((ndA l p).ks.take i).filter fun k=>(ndA l k).kd==4:=⟨_,rfl⟩
 obtain⟨F5,hF5⟩:∃F:Nat→List Int,F=fun i=>((ndA l p).ks.take i).filter fun k=>(ndA l k).kd==5:=⟨_,rfl⟩
 have f40:F4 0=[]:=by rw[hF4];rfl
 have f50:F5 0=[]:=by rw[hF5];rfl
 have f4m:F4 m=L4:=by rw[hF4,hL4,hm];show List.filter _ (List.take _ _)=_;rw[List.take_length]
 have f5m:F5 m=L5:=by rw[hF5,hL5,hm];show List.filter _ (List.take _ _)=_;rw[List.take_length]
 have f4s:∀(i:Nat) (hi:i<(ndA l p).ks.length),F4 (i+1)=F4 i++(if (ndA l (ndA l p).ks[i]).kd=4 then [(ndA l p).ks[i]] else []):=fun i hi=>by
  rw[hF4];show List.filter _ (List.take _ _)=_;rw[filt_step hi];simp
 have f5s:∀(i:Nat) (hi:i<(ndA l p).ks.length),F5 (i+1)=F5 i++(if (ndA l (ndA l p).ks[i]).kd=5 then [(ndA l p).ks[i]] else []):=fun i hi=>by
  rw[hF5];show List.filter _ (List.take _ _)=_;rw[filt_step hi];simp
 have f4l:∀i,(F4 i).length≤4000:=fun i=>by rw[hF4];exact Nat.le_trans (List.length_filter_le _ _) (Nat.le_trans (List.length_take_le' _ _) (by omega))
 have f5l:∀i,(F5 i).length≤4000:=fun i=>by rw[hF5];exact Nat.le_trans (List.length_filter_le _ _) (Nat.le_trans (List.length_take_le' _ _) (by omega))
 have H4S:=Lib.hid f4s
 have H5S:=Lib.hid f5s
 have H40:=Lib.hid f40
 have H50:=Lib.hid f50
 have H4M:=Lib.hid f4m
 have H5M:=Lib.hid f5m
 have H4L:=Lib.hid f4l
 have H5L:=Lib.hid f5l
 have HALL:=Lib.hid hall
 have HM:=Lib.hid hm
 have HLAST:=Lib.hid hlast
 have HM1:=Lib.hid hm1
 have hmp:0<m:=by omega
 have hm4:m≤4000:=hfew
 clear hF4 hF5 hL4 hL5 f40 f50 f4m f5m f4s f5s f4l f5l hlast hm1 hfew
 unfold txA at hl ⊢
 generalize lisT (L4.map (tydT l))=yq at *
 generalize blkT l (stT l n n) 0 bl L5=yb at *
 have HB:=Lib.hid hb
 have H:=Lib.hid h
 have hbw:=h.bw
 have hbl2:=h.lt
 have hsz:=hb.size
 unfold PV at HLI HBK
 unfold PV
 generalize (ndA l p).n=nn at *
 generalize (ndA l p).pl=pl at *
 generalize (ndA l p).tx=tx at *
 generalize (ndA l p).ks=ks at *
 obtain⟨yt,hyt⟩:∃yt,yt=(if nn=0 then [] else [32]++tyT nn:List UInt8):=⟨_,rfl⟩
 rw[← hyt]at hl ⊢
 have HYT:=Lib.hid hyt
 clear hyt
 have HL:=Lib.hid hl
 have HPL0:=Lib.hid (show PL w0.heap.size b t w [.slice (some ⟨bA,off,none⟩) n c,.func (.func 117) #[.pointer (some ⟨b,0,none⟩)] #[],.int .i64 0] [.int .i64 3,.int .i64 nn,.int .i64 pl,.string tx,.slice (some ⟨bk,ok,none⟩) m cK] (.slice none 0 0) (.slice none 0 0) [] [] ((w.alloc (.cells #[.slice (some ⟨bA,off,none⟩) n c,.func (.func 117) #[.pointer (some ⟨b,0,none⟩)] #[],.int .i64 0] 73)).alloc (.cells #[.int .i64 3,.int .i64 nn,.int .i64 pl,.string tx,.slice (some ⟨bk,ok,none⟩) m cK] 37))from by
  have b1:=s2_new w [.slice (some ⟨bA,off,none⟩) n c,.func (.func 117) #[.pointer (some ⟨b,0,none⟩)] #[],.int .i64 0] [.int .i64 3,.int .i64 nn,.int .i64 pl,.string tx,.slice (some ⟨bk,ok,none⟩) m cK]
  exact⟨(h.alloc _).alloc _,((Kp.refl w0.heap.size b w).alloc hbw _).alloc (by rw[World.size_alloc];omega) _,b1.1,b1.2,World.ownsRow_nil _ _ 3 1,World.ownsRow_nil _ _ 3 1,fun k e1=>by simp[Value.ownBlock]at e1,by rw[World.size_alloc,World.size_alloc];omega⟩)
 clear hks' e1 hall hgl h4in h5in hb h hl hx hs hcp hpl z5 hck0 hm hbl hbk
 go_enter Tryz.func120,Tryz.ntmps120
 go_wp2
 go_loopg [5,6,8,17] m (fun g a5 a6 _ a17 wr=>∃i:Nat,a17 = .int .i64 (i:Int)∧i≤m∧g=m-i∧PL w0.heap.size b t w [.slice (some ⟨bA,off,none⟩) n c,.func (.func 117) #[.pointer (some ⟨b,0,none⟩)] #[],.int .i64 0] [.int .i64 3,.int .i64 nn,.int .i64 pl,.string tx,.slice (some ⟨bk,ok,none⟩) m cK] a5 a6 (F4 i) (F5 i) wr)
 case atStart=>exact⟨0,rfl,Nat.zero_le _,rfl,by rw[H40.out,H50.out];exact HPL0.out⟩
 case round=>
  obtain⟨i,rfl,him,rfl,hpl⟩:=hrel
  have HPL:=Lib.hid hpl
  have hwrB:w0.heap.size≤wr.heap.size:=hpl.pg.bw
  by_cases hlt2:i<m
  ·have hlz:(i:Int)<(m:Int):=by omega
   have hik:i<ks.length:=by rw[← HM.out];exact hlt2
   have hb3:=HB.out.trans hpl.kp.1
   have cS:=(hb3.cell (p:=⟨bk,ok+i,none⟩) hbk2).trans (HCK.out i hik)
   obtain⟨k2,ek,hk2n⟩:=HALL.out ks[i] (List.getElem_mem hik)
   have h4s:=H4S.out i hik
   have h5s:=H5S.out i hik
   rw[ek]at cS h4s h5s
   have hkz:(k2:Int)<(n:Int):=by omega
   have n0:=HN.out k2 hk2n wr hb3
   have e0:=(hpl.bx.cell 0).trans rfl
   have h1:IntKind.wrap .i64 1=1:=rfl
   clear ek h1
   generalize (ndA l (k2:Int)).kd=kd at *
   by_cases k4:kd=4
   ·rw[if_pos k4]at h4s
    rw[if_neg (by rw[k4];decide),List.append_nil]at h5s
    subst k4
    have HS4:=Lib.hid h4s
    have HS5:=Lib.hid h5s
    clear h4s h5s hb3 hpl
    go_wp2_with (at_builtin;refine pl_append rfl _ _ rfl wr (w.heap.size+2) _ (F4 i) (k2:Int) HPL.out.o5 HPL.out.sz (by have:=H4L.out i;omega) rfl rfl ?_;intro v' w' h1 h2 h3;have HQ:=Lib.hid (HPL.out.app5 (by omega) h1 h2 h3);clear h1 h2 h3)
    clear cS n0 e0
    go_wp2
    go_roundg (m-(i+1))
    case measure=>go_light;omega
    case rel=>
     go_light
     exact⟨i+1,by go_num,by omega,rfl,by rw[HS4.out,HS5.out];exact HQ.out⟩
   ·by_cases k5:kd=5
    ·rw[if_neg k4,List.append_nil]at h4s
     rw[if_pos k5]at h5s
     subst k5
     have HS4:=Lib.hid h4s
     have HS5:=Lib.hid h5s
     clear h4s h5s hb3 hpl k4
     go_wp2_with (at_builtin;refine pl_append rfl _ _ rfl wr (w.heap.size+2) _ (F5 i) (k2:Int) HPL.out.o6 HPL.out.sz (by have:=H5L.out i;omega) rfl rfl ?_;intro v' w' h1 h2 h3;have HQ:=Lib.hid (HPL.out.app6 (by omega) h1 h2 h3);clear h1 h2 h3)
     clear cS n0 e0
     go_wp2
     go_roundg (m-(i+1))
     case measure=>go_light;omega
     case rel=>
      go_light
      exact⟨i+1,by go_num,by omega,rfl,by rw[HS4.out,HS5.out];exact HQ.out⟩
    ·rw[if_neg k4,List.append_nil]at h4s
     rw[if_neg k5,List.append_nil]at h5s
     have HS4:=Lib.hid h4s
     have HS5:=Lib.hid h5s
     clear h4s h5s hb3 hpl
     go_wp2
     go_roundg (m-(i+1))
     case measure=>go_light;omega
     case rel=>
      go_light
      exact⟨i+1,by go_num,by omega,rfl,by rw[HS4.out,HS5.out];exact HPL.out⟩
  ·obtain rfl:i=m:=by omega
   have hlz:¬(i:Int)<(i:Int):=by omega
   rw[H4M.out,H5M.out]at hpl
   obtain⟨A5,q5,rfl,_⟩:=own_ints hpl.o5
   obtain⟨A6,q6,rfl,_⟩:=own_ints hpl.o6
   have HPM:=Lib.hid hpl
   have hb4:=HB.out.trans hpl.kp.1
   have e1:=(hpl.bx.cell 1).trans rfl
   have n3:=(hpl.bn.cell 3).trans rfl
   clear hpl HPL
   go_wp2_with (go_at_call 117;refine(write_new w0.heap.size b t [[112,114,111,99,32],tx.data.toList] _ HPM.out.pg (by have:=HL.out;simp only[List.length_append,List.length_cons,List.length_nil,List.flatten_cons,List.flatten_nil]at this ⊢;omega) (by simp) 2 rfl _ (by simp[bsX_of];rfl) _ rfl).mono ?_)
   first
   |(rintro e w1 ⟨rfl,q4⟩;obtain⟨hp1,hk1⟩:=q4)
   |(rintro e w1 ⟨rfl,q4⟩;intro hp1 hk1)
   have HX1:=Lib.hid (show S2 w.heap.size (w.heap.size+1) [.slice (some ⟨bA,off,none⟩) n c,.func (.func 117) #[.pointer (some ⟨b,0,none⟩)] #[],.int .i64 0] [.int .i64 3,.int .i64 nn,.int .i64 pl,.string tx,.slice (some ⟨bk,ok,none⟩) i cK] w1 from⟨Bx.kp HPM.out.bx hk1 (by omega) (by decide),Bx.kp HPM.out.bn hk1 (by omega) (by decide)⟩)
   have HP1:=Lib.hid hp1
   have HW1:=Lib.hid (HPM.out.kp.trans hk1)
   have HO5:=Lib.hid (own_kp HPM.out.o5 hk1 (by omega))
   have HO6:=Lib.hid (own_kp HPM.out.o6 hk1 (by omega))
   clear hp1 hk1 e1 n3 HPM
   have e0:=(HX1.out.1.cell 0).trans rfl
   have e1:=(HX1.out.1.cell 1).trans rfl
   have e2:=(HX1.out.1.cell 2).trans rfl
   go_wp2_with (go_at_call 192;refine(HLI.out A5 q5 _ _ (HB.out.trans HW1.out.1) HP1.out (fun w2 q=>own_ints_at (own_kp HO5.out q (by omega))) (by have:=HL.out;simp only[List.length_append,List.length_cons,List.length_nil]at this ⊢;omega)).mono ?_)
   first
   |(rintro e w2 ⟨rfl,q4⟩;obtain⟨hp2,hk2⟩:=q4)
   |(rintro e w2 ⟨rfl,q4⟩;intro hp2 hk2)
   have HX2:=Lib.hid (HX1.out.kp hk2 (by omega) (by omega))
   have HP2:=Lib.hid hp2
   have HW2:=Lib.hid (HW1.out.trans hk2)
   have HO7:=Lib.hid (own_kp HO6.out hk2 (by omega))
   clear hp2 hk2 e0 e1 e2 HX1 HP1 HW1 HO5 HO6
   have n1:=(HX2.out.2.cell 1).trans rfl
   by_cases hn0:nn=0
   ·subst hn0
    have hyt:=HYT.out
    rw[if_pos rfl]at hyt
    subst hyt
    have HSP:=Lib.hid (show SP w.heap.size (w.heap.size+1) [.slice (some ⟨bA,off,none⟩) n c,.func (.func 117) #[.pointer (some ⟨b,0,none⟩)] #[],.int .i64 0] [.int .i64 3,.int .i64 0,.int .i64 pl,.string tx,.slice (some ⟨bk,ok,none⟩) i cK] bk (ok+(i-1)) (bl:Int) w2 from⟨HX2.out.1,HX2.out.2,by
     have hj:i-1<ks.length:=by have:=HM.out;omega
     have:=((HB.out.trans HW2.out.1).cell (p:=⟨bk,ok+(i-1),none⟩) hbk2).trans (HCK.out (i-1) hj)
     rw[this]
     have h2:=HLAST.out
     rw[show ks'.length=i-1 by have:=HM1.out;omega,List.getElem?_eq_getElem hj]at h2
     injection h2 with h2
     rw[h2]⟩)
    go_upto_region 16 with(fail)
    obtain⟨W5,hW5⟩:∃W5:World,{ w2 with drawn:=w2.drawn+1 }=W5:=⟨_,rfl⟩
    have hkd:Kp w0.heap.size b w2 W5:=by rw[← hW5];exact⟨Below.drew (Below.refl _ _),(Lib.OthersKept.refl _ _ w2).drew⟩
    have hS:=HSP.out.kp hkd (by omega) (by omega) hbk2
    have hP5:=(show∀T,Pg w0.heap.size b T w2→Pg w0.heap.size b T W5 from fun T q=>by rw[← hW5];exact q) _ HP2.out
    have hw5:=HW2.out.trans hkd
    have hb5:=HB.out.trans hw5.1
    have hO5:=own_kp HO7.out hkd (by omega)
    refine wp_region_held (S:=SP w.heap.size (w.heap.size+1) [.slice (some ⟨bA,off,none⟩) n c,.func (.func 117) #[.pointer (some ⟨b,0,none⟩)] #[],.int .i64 0] [.int .i64 3,.int .i64 0,.int .i64 pl,.string tx,.slice (some ⟨bk,ok,none⟩) i cK] bk (ok+(i-1)) (bl:Int)) (by kernel_rfl) ?_
    rw[hW5]
    clear hW5 HSP
    refine hpu 0 (.agg #[.slice (some ⟨bA,off,none⟩) n c,.func (.func 117) #[.pointer (some ⟨b,0,none⟩)] #[],.int .i64 0]) (by kernel_rfl) rfl rfl (fun _ _ _ h=>h) rfl (y_load rfl rfl (fun w' q=>run_load73 ((q.1.cell 0).trans rfl) ((q.1.cell 1).trans rfl) ((q.1.cell 2).trans rfl))) hS ?_
    simp only[ap]
    refine hpu 1 (.pointer (some ⟨w.heap.size+1,4,none⟩)) (by kernel_rfl) rfl rfl (fun _ _ _ h=>h) rfl (y_field rfl rfl (run_field37_4 _)) hS ?_
    simp only[ap]
    refine hpu 2 (.slice (some ⟨bk,ok,none⟩) i cK) (by kernel_rfl) rfl rfl (fun _ _ _ h=>h) rfl (y_load rfl rfl (fun w' q=>run_load35x ((q.2.1.cell 4).trans rfl))) hS ?_
    simp only[ap]
    refine hpu 3 (.pointer (some ⟨w.heap.size+1,4,none⟩)) (by kernel_rfl) rfl rfl (fun _ _ _ h=>h) rfl (y_field rfl rfl (run_field37_4 _)) hS ?_
    simp only[ap]
    refine hpu 4 (.slice (some ⟨bk,ok,none⟩) i cK) (by kernel_rfl) rfl rfl (fun _ _ _ h=>h) rfl (y_load rfl rfl (fun w' q=>run_load35x ((q.2.1.cell 4).trans rfl))) hS ?_
    simp only[ap]
    refine hpu 5 (.int .i64 (i:Int)) (by kernel_rfl) rfl rfl (fun _ _ _ h=>h) rfl (y_len35 rfl rfl) hS ?_
    simp only[ap]
    refine hpu 6 (.int .i64 ((i-1:Nat):Int)) (by kernel_rfl) rfl rfl (fun _ _ _ h=>h) rfl (y_bin rfl rfl rfl (fun w=>by simp[go_sem]) (fun w=>(sub1 i (by omega) w).trans (by rw[show((i:Int)-1)=((i-1:Nat):Int)by omega]))) hS ?_
    simp only[ap]
    refine hpu 7 (.pointer (some ⟨bk,ok+(i-1),none⟩)) (by kernel_rfl) rfl rfl (fun _ _ _ h=>h) rfl (y_index rfl rfl rfl (fun w=>run_index35 bk ok i cK (i-1) (by omega) w)) hS ?_
    simp only[ap]
    refine hpu 8 (.int .i64 (bl:Int)) (by kernel_rfl) rfl rfl (fun _ _ _ h=>h) rfl (y_load rfl rfl (fun w' q=>run_load3 q.2.2)) hS ?_
    simp only[ap]
    refine hpu 9 (.slice A6 L5.length q6) (by kernel_rfl) rfl rfl (fun _ _ _ h=>h) rfl (y_move rfl rfl) hS ?_
    simp only[ap]
    refine h_callx 10 ({ dst:=some 71,op:=Op.call { callee:=Callee.value (Operand.func 194),args := #[Operand.tmp 61,Operand.tmp 69,Operand.tmp 70],argTypes := #[73,3,35] },type:=0,pos := "printer.go:69",after := #[{ on:=0,ground:=Ground.data },{ on:=8,ground:=Ground.data },{ on:=9,ground:=Ground.data }],guard:=none }:Oper) (args := #[.agg #[.slice (some ⟨bA,off,none⟩) n c,.func (.func 117) #[.pointer (some ⟨b,0,none⟩)] #[],.int .i64 0],.int .i64 (bl:Int),.slice A6 L5.length q6]) own194x rfl rfl (by kernel_rfl) rfl rfl (HBK.out A6 q6 _ _ hb5 hP5 (fun w2 q=>own_ints_at (own_kp hO5 q (by omega))) (by have:=HL.out;simp only[List.length_append,List.length_cons,List.length_nil]at this ⊢;omega)) ?_
    rintro e W6 ⟨rfl,hp6,hk6⟩
    have hS6:=hS.kp hk6 (by omega) (by omega) hbk2
    refine .inr ⟨_,rfl,hS6,?_⟩
    simp only[ap]
    refine wpAnyH_done (by kernel_rfl) ?_ _
    have HP6:=Lib.hid hp6
    have HW6:=Lib.hid (hw5.trans hk6)
    have e1:=(hS6.1.cell 1).trans rfl
    clear hS hP5 hw5 hkd hb5 HX2 HP2 HW2 HO7 hp6 hk6 hS6 hO5
    go_wp2_with (go_at_call 117;refine(write_new w0.heap.size b _ [[10]] _ HP6.out (by have:=HL.out;simp only[List.length_append,List.length_cons,List.length_nil,List.flatten_cons,List.flatten_nil]at this ⊢;omega) (by simp) 1 rfl _ (by rfl) _ rfl).mono ?_)
    rintro e w9 ⟨rfl,hp9,hk9⟩
    have HP9:=Lib.hid hp9
    have HW9:=Lib.hid (HW6.out.trans hk9)
    clear hp9 hk9 e1
    go_wp2
    go_end0
    exact⟨rfl,by simpa using HP9.out,HW9.out⟩
   ·have hyt:=HYT.out
    rw[if_neg hn0]at hyt
    subst hyt
    go_upto_region 15 with(fail)
    obtain⟨W5,hW5⟩:∃W5:World,{ w2 with drawn:=w2.drawn+1 }=W5:=⟨_,rfl⟩
    have hkd:Kp w0.heap.size b w2 W5:=by rw[← hW5];exact⟨Below.drew (Below.refl _ _),(Lib.OthersKept.refl _ _ w2).drew⟩
    have hS:=HX2.out.kp hkd (by omega) (by omega)
    have hP5:=(show∀T,Pg w0.heap.size b T w2→Pg w0.heap.size b T W5 from fun T q=>by rw[← hW5];exact q) _ HP2.out
    have hw5:=HW2.out.trans hkd
    refine wp_region_held (S:=S2 w.heap.size (w.heap.size+1) [.slice (some ⟨bA,off,none⟩) n c,.func (.func 117) #[.pointer (some ⟨b,0,none⟩)] #[],.int .i64 0] [.int .i64 3,.int .i64 nn,.int .i64 pl,.string tx,.slice (some ⟨bk,ok,none⟩) i cK]) (by kernel_rfl) ?_
    rw[hW5]
    clear hW5
    refine hpu 0 (.pointer (some ⟨w.heap.size,1,none⟩)) (by kernel_rfl) rfl rfl (fun _ _ _ h=>h) rfl (y_field rfl rfl (run_field73_1 _)) hS ?_
    simp only[ap]
    refine hpu 1 (.func (.func 117) #[.pointer (some ⟨b,0,none⟩)] #[]) (by kernel_rfl) rfl rfl (fun _ _ _ h=>h) rfl (y_load rfl rfl (fun w' q=>run_load71 ((q.1.cell 1).trans rfl))) hS ?_
    simp only[ap]
    refine hpu 2 (.pointer (some ⟨w.heap.size+1,1,none⟩)) (by kernel_rfl) rfl rfl (fun _ _ _ h=>h) rfl (y_field rfl rfl (run_field37_1 _)) hS ?_
    simp only[ap]
    refine hpu 3 (.int .i64 nn) (by kernel_rfl) rfl rfl (fun _ _ _ h=>h) rfl (y_load rfl rfl (fun w' q=>run_load3 ((q.2.cell 1).trans rfl))) hS ?_
    simp only[ap]
    refine h_callx 4 ({ dst:=some 58,op:=Op.call { callee:=Callee.value (Operand.func 193),args := #[Operand.tmp 57],argTypes := #[3] },type:=9,pos := "printer.go:67",after := #[{ on:=3,ground:=Ground.data }],guard:=none }:Oper) (args := #[.int .i64 nn]) own193x rfl rfl (by kernel_rfl) rfl rfl (typeWord_any nn W5) ?_
    rintro e w3 ⟨rfl,rfl⟩
    refine .inr ⟨_,rfl,hS,?_⟩
    simp only[ap]
    have hS3:S2 w.heap.size (w.heap.size+1) [.slice (some ⟨bA,off,none⟩) n c,.func (.func 117) #[.pointer (some ⟨b,0,none⟩)] #[],.int .i64 0] [.int .i64 3,.int .i64 nn,.int .i64 pl,.string tx,.slice (some ⟨bk,ok,none⟩) i cK] (W5.alloc (.cells #[.string ⟨#[32]⟩,.string (bsX (tyT nn))] 9)):=⟨hS.1.alloc _,hS.2.alloc _⟩
    refine h_one 5 ({ dst:=some 59,op:=Op.buildSlice 40 2 #[(0,Operand.const (Value.string { data := #[32] })),(1,Operand.tmp 58)],type:=40,pos := "printer.go:67",after := #[{ on:=4,ground:=Ground.data }],guard:=none }:Oper) rfl (by kernel_rfl) rfl (slice402 rfl rfl rfl ⟨hS3,?_⟩)
    simp only[ap]
    refine h_callv 6 ({ dst:=some 60,op:=Op.call { callee:=Callee.value (Operand.tmp 55),args := #[Operand.tmp 59],argTypes := #[40] },type:=0,pos := "printer.go:67",after := #[{ on:=1,ground:=Ground.data },{ on:=5,ground:=Ground.data },{ on:=4,ground:=Ground.chain }],guard:=none }:Oper) (pre := #[.pointer (some ⟨b,0,none⟩)]) (args := #[.slice (some ⟨W5.heap.size,0,none⟩) 2 2]) own117x rfl rfl (by kernel_rfl) rfl rfl rfl (write_new w0.heap.size b _ [[32],tyT nn] W5 hP5 (by have:=HL.out;simp only[List.length_append,List.length_cons,List.length_nil,List.flatten_cons,List.flatten_nil]at this ⊢;omega) (by simp) 2 rfl _ (by simp;rfl) _ rfl) ?_
    rintro e w3 ⟨rfl,hp3,hk3⟩
    have hS4:=hS.kp hk3 (by omega) (by omega)
    refine .inr ⟨_,rfl,hS4,?_⟩
    simp only[ap]
    refine wpAnyH_done (by kernel_rfl) ?_ _
    have HX3:=Lib.hid hS4
    have HP3:=Lib.hid hp3
    have HW3:=Lib.hid (hw5.trans hk3)
    have HO8:=Lib.hid (own_kp (own_kp HO7.out hkd (by omega)) hk3 (by omega))
    clear hS hS3 hS4 hP5 hw5 hk3 hp3 hkd n1 HX2 HP2 HW2 HO7
    have HSP:=Lib.hid (show SP w.heap.size (w.heap.size+1) [.slice (some ⟨bA,off,none⟩) n c,.func (.func 117) #[.pointer (some ⟨b,0,none⟩)] #[],.int .i64 0] [.int .i64 3,.int .i64 nn,.int .i64 pl,.string tx,.slice (some ⟨bk,ok,none⟩) i cK] bk (ok+(i-1)) (bl:Int) w3 from⟨HX3.out.1,HX3.out.2,by
     have hj:i-1<ks.length:=by have:=HM.out;omega
     have:=((HB.out.trans HW3.out.1).cell (p:=⟨bk,ok+(i-1),none⟩) hbk2).trans (HCK.out (i-1) hj)
     rw[this]
     have h2:=HLAST.out
     rw[show ks'.length=i-1 by have:=HM1.out;omega,List.getElem?_eq_getElem hj]at h2
     injection h2 with h2
     rw[h2]⟩)
    go_upto_region 16 with(fail)
    obtain⟨W5,hW5⟩:∃W5:World,{ w3 with drawn:=w3.drawn+1 }=W5:=⟨_,rfl⟩
    have hkd:Kp w0.heap.size b w3 W5:=by rw[← hW5];exact⟨Below.drew (Below.refl _ _),(Lib.OthersKept.refl _ _ w3).drew⟩
    have hS:=HSP.out.kp hkd (by omega) (by omega) hbk2
    have hP5:=(show∀T,Pg w0.heap.size b T w3→Pg w0.heap.size b T W5 from fun T q=>by rw[← hW5];exact q) _ HP3.out
    have hw5:=HW3.out.trans hkd
    have hb5:=HB.out.trans hw5.1
    have hO5:=own_kp HO8.out hkd (by omega)
    refine wp_region_held (S:=SP w.heap.size (w.heap.size+1) [.slice (some ⟨bA,off,none⟩) n c,.func (.func 117) #[.pointer (some ⟨b,0,none⟩)] #[],.int .i64 0] [.int .i64 3,.int .i64 nn,.int .i64 pl,.string tx,.slice (some ⟨bk,ok,none⟩) i cK] bk (ok+(i-1)) (bl:Int)) (by kernel_rfl) ?_
    rw[hW5]
    clear hW5 HSP
    refine hpu 0 (.agg #[.slice (some ⟨bA,off,none⟩) n c,.func (.func 117) #[.pointer (some ⟨b,0,none⟩)] #[],.int .i64 0]) (by kernel_rfl) rfl rfl (fun _ _ _ h=>h) rfl (y_load rfl rfl (fun w' q=>run_load73 ((q.1.cell 0).trans rfl) ((q.1.cell 1).trans rfl) ((q.1.cell 2).trans rfl))) hS ?_
    simp only[ap]
    refine hpu 1 (.pointer (some ⟨w.heap.size+1,4,none⟩)) (by kernel_rfl) rfl rfl (fun _ _ _ h=>h) rfl (y_field rfl rfl (run_field37_4 _)) hS ?_
    simp only[ap]
    refine hpu 2 (.slice (some ⟨bk,ok,none⟩) i cK) (by kernel_rfl) rfl rfl (fun _ _ _ h=>h) rfl (y_load rfl rfl (fun w' q=>run_load35x ((q.2.1.cell 4).trans rfl))) hS ?_
    simp only[ap]
    refine hpu 3 (.pointer (some ⟨w.heap.size+1,4,none⟩)) (by kernel_rfl) rfl rfl (fun _ _ _ h=>h) rfl (y_field rfl rfl (run_field37_4 _)) hS ?_
    simp only[ap]
    refine hpu 4 (.slice (some ⟨bk,ok,none⟩) i cK) (by kernel_rfl) rfl rfl (fun _ _ _ h=>h) rfl (y_load rfl rfl (fun w' q=>run_load35x ((q.2.1.cell 4).trans rfl))) hS ?_
    simp only[ap]
    refine hpu 5 (.int .i64 (i:Int)) (by kernel_rfl) rfl rfl (fun _ _ _ h=>h) rfl (y_len35 rfl rfl) hS ?_
    simp only[ap]
    refine hpu 6 (.int .i64 ((i-1:Nat):Int)) (by kernel_rfl) rfl rfl (fun _ _ _ h=>h) rfl (y_bin rfl rfl rfl (fun w=>by simp[go_sem]) (fun w=>(sub1 i (by omega) w).trans (by rw[show((i:Int)-1)=((i-1:Nat):Int)by omega]))) hS ?_
    simp only[ap]
    refine hpu 7 (.pointer (some ⟨bk,ok+(i-1),none⟩)) (by kernel_rfl) rfl rfl (fun _ _ _ h=>h) rfl (y_index rfl rfl rfl (fun w=>run_index35 bk ok i cK (i-1) (by omega) w)) hS ?_
    simp only[ap]
    refine hpu 8 (.int .i64 (bl:Int)) (by kernel_rfl) rfl rfl (fun _ _ _ h=>h) rfl (y_load rfl rfl (fun w' q=>run_load3 q.2.2)) hS ?_
    simp only[ap]
    refine hpu 9 (.slice A6 L5.length q6) (by kernel_rfl) rfl rfl (fun _ _ _ h=>h) rfl (y_move rfl rfl) hS ?_
    simp only[ap]
    refine h_callx 10 ({ dst:=some 71,op:=Op.call { callee:=Callee.value (Operand.func 194),args := #[Operand.tmp 61,Operand.tmp 69,Operand.tmp 70],argTypes := #[73,3,35] },type:=0,pos := "printer.go:69",after := #[{ on:=0,ground:=Ground.data },{ on:=8,ground:=Ground.data },{ on:=9,ground:=Ground.data }],guard:=none }:Oper) (args := #[.agg #[.slice (some ⟨bA,off,none⟩) n c,.func (.func 117) #[.pointer (some ⟨b,0,none⟩)] #[],.int .i64 0],.int .i64 (bl:Int),.slice A6 L5.length q6]) own194x rfl rfl (by kernel_rfl) rfl rfl (HBK.out A6 q6 _ _ hb5 hP5 (fun w2 q=>own_ints_at (own_kp hO5 q (by omega))) (by have:=HL.out;simp only[List.length_append,List.length_cons,List.length_nil,List.flatten_cons,List.flatten_nil]at this ⊢;omega)) ?_
    rintro e W6 ⟨rfl,hp6,hk6⟩
    have hS6:=hS.kp hk6 (by omega) (by omega) hbk2
    refine .inr ⟨_,rfl,hS6,?_⟩
    simp only[ap]
    refine wpAnyH_done (by kernel_rfl) ?_ _
    have HP6:=Lib.hid hp6
    have HW6:=Lib.hid (hw5.trans hk6)
    have e1:=(hS6.1.cell 1).trans rfl
    clear hS hP5 hw5 hkd hb5 HX3 HP3 HW3 HO8 hp6 hk6 hS6 hO5
    go_wp2_with (go_at_call 117;refine(write_new w0.heap.size b _ [[10]] _ HP6.out (by have:=HL.out;simp only[List.length_append,List.length_cons,List.length_nil,List.flatten_cons,List.flatten_nil]at this ⊢;omega) (by simp) 1 rfl _ (by rfl) _ rfl).mono ?_)
    rintro e w9 ⟨rfl,hp9,hk9⟩
    have HP9:=Lib.hid hp9
    have HW9:=Lib.hid (HW6.out.trans hk9)
    clear hp9 hk9 e1
    go_wp2
    go_end0
    exact⟨rfl,by simpa using HP9.out,HW9.out⟩
end
section
set_option maxHeartbeats 4000000
set_option maxRecDepth 100000
open Go Go.RowKit
open Tr (Bx heap1 bt Nds Ints)
theorem program_pg {w0:World}{A:Option Addr}{l:List Tr.Nd}{n:Nat}(c b:Nat)(hx:Px0 w0 A l n)(hcp:Caps w0 A l)(hs:ShOk l)(p:Nat)(t:List UInt8)(w:World)(hp:p<n)(hk:(ndA l p).kd=1)(hb:Below w0.heap.size w0 w)(h:Pg w0.heap.size b t w)(hl:t.length+(pgmT l n p).length≤140737488355328) :
  Calls Tryz.prog 61 #[PV A n c b 0,.int .i64 (p:Int)] w (WrPost w0.heap.size b (t++pgmT l n p) (.tuple #[]) w):=by
 have hpl:p<l.length:=by rw[← hx.len];exact hp
 have hall:=hs.pg p hpl hk
 have hfew:=hs.few p hpl
 have HV:=Lib.hid (fun(k2:Nat) t' w' (hk2:k2<n) (q:Below w0.heap.size w0 w') (h':Pg w0.heap.size b t' w') (hl':t'.length+(varT l 0 k2).length≤140737488355328)=>(show Calls Tryz.prog 119 #[PV A n c b 0,.int .i64 (k2:Int)] w' (WrPost w0.heap.size b (t'++varT l 0 k2) (.tuple #[]) w')from variable_pg c b 0 hx k2 t' w' hk2 (by omega) q h' hl'))
 have HPR:=Lib.hid (fun(k2:Nat) t' w' (hk2:k2<n) (h3:(ndA l k2).kd=3) (q:Below w0.heap.size w0 w') (h':Pg w0.heap.size b t' w') (hl':t'.length+(prcT l n k2).length≤140737488355328)=>proc_pg c b hx hcp hs k2 t' w' hk2 h3 q h' hl')
 obtain⟨ys,hys⟩:∃ys,ys=(ndA l p).ks.map fun k=>if (ndA l k).kd=2 then varT l 0 k else prcT l n k:=⟨_,rfl⟩
 unfold pgmT at hl ⊢
 rw[← hys]at hl ⊢
 obtain⟨bA,off,K,cK,rfl,hlt,c0,c1,c2,c3,c4,z5⟩:=node_at hx.nds hb p hpl
 rw[← ndA_eq hpl]at c4 z5
 clear c0 c1 c2 c3
 have hpz:(p:Int)<(n:Int):=by omega
 have hpn:p<n:=hp
 have HN:=Lib.hid (show∀(k:Nat),k<n→∀w',Below w0.heap.size w0 w'→w'.cell? ⟨bA,off+k*5,none⟩=some (.int .i64 (ndA l k).kd)from fun k hk2 w' q=>by
  obtain⟨bX,oX,KX,cX,eX,_,q0,_⟩:=node_at hx.nds q k (by rw[← hx.len];exact hk2)
  injection eX with eX
  injection eX with x1 x2
  rw[x1,x2,ndA_eq (by rw[← hx.len];exact hk2)]
  exact q0)
 have HY:=Lib.hid hys
 have HALL:=Lib.hid hall
 have HZ:=Lib.hid z5
 generalize (ndA l p).ks=ks at *
 obtain⟨m,hm⟩:∃m,m=ks.length:=⟨_,rfl⟩
 rw[← hm]at c4
 have hm2:m≤4000:=by rw[hm];exact hfew
 have HM:=Lib.hid hm
 have HL:=Lib.hid hl
 have HB:=Lib.hid hb
 have H:=Lib.hid h
 have hbw:=h.bw
 have hbl:=h.lt
 have hsz:=hb.size
 unfold PV at HV HPR
 unfold PV
 have HX0:=Lib.hid (Bx.new w 73 [.slice (some ⟨bA,off,none⟩) n c,.func (.func 117) #[.pointer (some ⟨b,0,none⟩)] #[],.int .i64 0])
 have HP0:=Lib.hid (h.alloc (.cells #[.slice (some ⟨bA,off,none⟩) n c,.func (.func 117) #[.pointer (some ⟨b,0,none⟩)] #[],.int .i64 0] 73))
 have HW0:=Lib.hid ((Kp.refl w0.heap.size b w).alloc hbw (.cells #[.slice (some ⟨bA,off,none⟩) n c,.func (.func 117) #[.pointer (some ⟨b,0,none⟩)] #[],.int .i64 0] 73))
 clear hys hall z5 hm hl hb h hpl hk hs hcp hfew hx
 go_enter Tryz.func61,Tryz.ntmps61
 go_wp2
 go_loopg [5,13] m (fun g _ a13 wr=>∃i:Nat,a13 = .int .i64 (i:Int)∧i≤m∧g=m-i∧Pg w0.heap.size b (t++(ys.take i).flatten) wr∧Kp w0.heap.size b w wr∧Bx wr w.heap.size 73 [.slice (some ⟨bA,off,none⟩) n c,.func (.func 117) #[.pointer (some ⟨b,0,none⟩)] #[],.int .i64 0])
 case atStart=>exact⟨0,rfl,Nat.zero_le _,rfl,by simpa using HP0.out,HW0.out,HX0.out⟩
 case round=>
  obtain⟨i,rfl,him,rfl,hp,hk,hx⟩:=hrel
  have HP2:=Lib.hid hp
  have HW2:=Lib.hid hk
  have HX2:=Lib.hid hx
  by_cases hlt2:i<m
  ·have hlz:(i:Int)<(m:Int):=by omega
   have hik:i<ks.length:=by rw[← HM.out];exact hlt2
   have hb3:=HB.out.trans hk.1
   obtain⟨bS,oS,rfl,hbS,hcS⟩:=(HZ.out.below hb3) (by omega)
   have cS:=hcS i hik
   obtain⟨k2,ek,hk2n,hkk⟩:=HALL.out ks[i] (List.getElem_mem hik)
   have hk2n:k2<n:=by omega
   have hkz:(k2:Int)<(n:Int):=by omega
   have hiy:i<ys.length:=by rw[HY.out,List.length_map];exact hik
   have hyi0:ys[i]=if (ndA l ks[i]).kd=2 then varT l 0 ks[i] else prcT l n ks[i]:=by simp[HY.out]
   have hsn:(ys.take (i+1)).flatten=(ys.take i).flatten++ys[i]:=by
    rw[List.take_succ_eq_append_getElem hiy,List.flatten_append]
    simp
   have hfl:=flat_at ys i hiy
   rw[ek]at cS hyi0
   have n0:=HN.out k2 hk2n wr hb3
   have e0:=(hx.cell 0).trans rfl
   have e1:=(hx.cell 1).trans rfl
   have e2:=(hx.cell 2).trans rfl
   have hle:t.length+(ys.take i).flatten.length+ys[i].length≤140737488355328:=by
    have:=HL.out
    omega
   generalize ys[i]=y at *
   have HS:=Lib.hid hsn
   have HY0:=Lib.hid hyi0
   clear hsn hfl hyi0 hp hk hx hcS hiy ek
   rcases hkk with hkk |hkk
   ·have HKK:=Lib.hid hkk
    rw[hkk]at n0
    have HYE:=Lib.hid (show y=varT l 0 k2 from HY0.out.trans (if_pos hkk))
    clear hkk
    go_wp2_with (go_at_call 119;refine(HV.out k2 _ _ hk2n hb3 HP2.out (by rw[← HYE.out,List.length_append];omega)).mono ?_)
    rintro e w3 ⟨rfl,hp4,hk4⟩
    have HX4:=Lib.hid (Bx.kp HX2.out hk4 (by omega) (by decide))
    have HP4:=Lib.hid hp4
    have HW4:=Lib.hid (HW2.out.trans hk4)
    clear hp4 hk4 e0 e1 e2 n0 cS
    go_wp2
    go_roundg (m-(i+1))
    case measure=>go_light;omega
    case rel=>
     go_light
     exact⟨i+1,by go_num,by omega,rfl,by have:=HP4.out;rw[HS.out,HYE.out,← List.append_assoc];exact this,HW4.out,HX4.out⟩
   ·have HKK:=Lib.hid hkk
    rw[hkk]at n0
    have HYE:=Lib.hid (show y=prcT l n k2 from HY0.out.trans (if_neg (by rw[hkk];decide)))
    clear hkk
    go_wp2_with (go_at_call 120;refine(HPR.out k2 _ _ hk2n HKK.out hb3 HP2.out (by rw[← HYE.out,List.length_append];omega)).mono ?_)
    rintro e w3 ⟨rfl,hp4,hk4⟩
    have HX4:=Lib.hid (Bx.kp HX2.out hk4 (by omega) (by decide))
    have HP4:=Lib.hid hp4
    have HW4:=Lib.hid (HW2.out.trans hk4)
    clear hp4 hk4 e0 e1 e2 n0 cS
    go_wp2
    go_roundg (m-(i+1))
    case measure=>go_light;omega
    case rel=>
     go_light
     exact⟨i+1,by go_num,by omega,rfl,by have:=HP4.out;rw[HS.out,HYE.out,← List.append_assoc];exact this,HW4.out,HX4.out⟩
  ·obtain rfl:i=m:=by omega
   have hlz:¬(i:Int)<(i:Int):=by omega
   have ht:ys.take i=ys:=List.take_of_length_le (by rw[HY.out,List.length_map];have:=HM.out;omega)
   rw[ht]at hp
   have HP5:=Lib.hid hp
   clear hp hk ht HP2 hx
   go_wp2
   go_end0
   exact⟨rfl,HP5.out,HW2.out⟩
theorem program_none {w0:World}{A:Option Addr}{l:List Tr.Nd}{n:Nat}(c b:Nat)(hx:Px0 w0 A l n)(p:Nat)(w:World)(hp:p<n)(hk:(ndA l p).ks=[])(hb:Below w0.heap.size w0 w) :
  Calls Tryz.prog 61 #[PV A n c b 0,.int .i64 (p:Int)] w fun e w'=>e = .returned (.tuple #[])∧Below w.heap.size w w':=by
 have hpl:p<l.length:=by rw[← hx.len];exact hp
 obtain⟨bA,off,K,cK,rfl,hlt,c0,c1,c2,c3,c4,z5⟩:=node_at hx.nds hb p hpl
 rw[← ndA_eq hpl,hk]at c4
 have hpz:(p:Int)<(n:Int):=by omega
 have c4:w.cell? ⟨bA,off+p*5+4,none⟩=some (.slice K 0 cK):=c4
 have HW:=Lib.hid (heap1 w (.cells #[.slice (some ⟨bA,off,none⟩) n c,.func (.func 117) #[.pointer (some ⟨b,0,none⟩)] #[],.int .i64 0] 73))
 clear c0 c1 c2 c3 z5 hk hb hx hpl
 unfold PV
 go_enter Tryz.func61,Tryz.ntmps61
 go_wp2
 go_loopg [5,13] 0 (fun g _ a13 wr=>a13 = .int .i64 0∧g=0∧Below w.heap.size w wr)
 case atStart=>exact⟨rfl,rfl,HW.out⟩
 case round=>
  obtain⟨rfl,rfl,hw⟩:=hrel
  have HW2:=Lib.hid hw
  clear hw
  go_wp2
  go_end0
  exact⟨rfl,HW2.out⟩
theorem printed61_pg (A:Option Addr)(n c:Nat)(r:Int)(p:Int)(y:List UInt8)(w w0:World)(hw0:w0=w.alloc (.cells #[.slice A n c,.int .i64 r] 25))(hy:y≠[])
  (hway:∀w',Below w0.heap.size w0 w'→Pg w0.heap.size w0.heap.size [] w'→Calls Tryz.prog 61 #[PV A n c w0.heap.size 0,.int .i64 p] w' (WrPost w0.heap.size w0.heap.size y (.tuple #[]) w')) :
  Calls Tryz.prog 60 #[.agg #[.slice A n c,.int .i64 r],.int .i64 p,.func (.func 61) #[] #[]] w fun e w'=>e = .returned (.string (bsX y))∧Below w.heap.size w w':=by
 have hsz:w0.heap.size=w.heap.size+1:=by rw[hw0,World.size_alloc]
 have hX:=(Bx.new w 25 [.slice A n c,.int .i64 r])
 have hXp:=hX.alloc (.cells #[.pointer none,.slice none 0 0] 118)
 have hP:=new_pg w0
 have hbp:=heap1 w0 (.cells #[.pointer none,.slice none 0 0] 118)
 have HP0:=Lib.hid hP
 have HC:=Lib.hid (hway _ hbp hP)
 have HB:=Lib.hid ((heap1 w (.cells #[.slice A n c,.int .i64 r] 25)))
 rw[hw0]at hbp
 have HBP:=Lib.hid hbp
 rw[hsz]at HC HP0
 rw[hw0]at HC HP0
 have e0:=(hXp.cell 0).trans rfl
 have HS:=Lib.hid (fun w' (q:Pg (w.heap.size+1) (w.heap.size+1) y w')=>string_pg (w.heap.size+1) (w.heap.size+1) y w' q hy)
 have HSZ:=Lib.hid hsz
 unfold PV at HC
 clear hway hw0 hX hXp hP hbp hy hsz
 go_enter Tryz.func60,Tryz.ntmps60
 go_wp2_with (go_at_call 61;refine HC.out.mono ?_)
 rintro e w1 ⟨rfl,hp,hk⟩
 have HC2:=Lib.hid (HS.out w1 hp)
 have HK:=Lib.hid hk
 clear hp hk e0
 go_wp2_with (go_at_call 118;refine HC2.out.mono ?_)
 rintro e w2 ⟨rfl,hp2,hk2⟩
 have HK2:=Lib.hid hk2
 clear hp2 hk2
 go_wp2
 go_ret
 refine⟨rfl,bt HB.out ?_⟩
 have h1:=HBP.out
 have h2:=HK.out.1
 have h3:=HK2.out.1
 rw[show(w.alloc (.cells #[.slice A n c,.int .i64 r] 25)).heap.size=w.heap.size+1 from World.size_alloc _ _]at h1 ⊢
 exact(h1.trans h2).trans h3
theorem printed72_pg (A:Option Addr)(n c:Nat)(r:Int)(p:Int)(y:List UInt8)(w w0:World)(hw0:w0=w.alloc (.cells #[.slice A n c,.int .i64 r] 25))(hy:y≠[])
  (hway:∀w',Below w0.heap.size w0 w'→Pg w0.heap.size w0.heap.size [] w'→Calls Tryz.prog 72 #[PV A n c w0.heap.size 0,.int .i64 p] w' (WrPost w0.heap.size w0.heap.size y (.tuple #[]) w')) :
  Calls Tryz.prog 60 #[.agg #[.slice A n c,.int .i64 r],.int .i64 p,.func (.func 72) #[] #[]] w fun e w'=>e = .returned (.string (bsX y))∧Below w.heap.size w w':=by
 have hsz:w0.heap.size=w.heap.size+1:=by rw[hw0,World.size_alloc]
 have hX:=(Bx.new w 25 [.slice A n c,.int .i64 r])
 have hXp:=hX.alloc (.cells #[.pointer none,.slice none 0 0] 118)
 have hP:=new_pg w0
 have hbp:=heap1 w0 (.cells #[.pointer none,.slice none 0 0] 118)
 have HP0:=Lib.hid hP
 have HC:=Lib.hid (hway _ hbp hP)
 have HB:=Lib.hid ((heap1 w (.cells #[.slice A n c,.int .i64 r] 25)))
 rw[hw0]at hbp
 have HBP:=Lib.hid hbp
 rw[hsz]at HC HP0
 rw[hw0]at HC HP0
 have e0:=(hXp.cell 0).trans rfl
 have HS:=Lib.hid (fun w' (q:Pg (w.heap.size+1) (w.heap.size+1) y w')=>string_pg (w.heap.size+1) (w.heap.size+1) y w' q hy)
 have HSZ:=Lib.hid hsz
 unfold PV at HC
 clear hway hw0 hX hXp hP hbp hy hsz
 go_enter Tryz.func60,Tryz.ntmps60
 go_wp2_with (go_at_call 72;refine HC.out.mono ?_)
 rintro e w1 ⟨rfl,hp,hk⟩
 have HC2:=Lib.hid (HS.out w1 hp)
 have HK:=Lib.hid hk
 clear hp hk e0
 go_wp2_with (go_at_call 118;refine HC2.out.mono ?_)
 rintro e w2 ⟨rfl,hp2,hk2⟩
 have HK2:=Lib.hid hk2
 clear hp2 hk2
 go_wp2
 go_ret
 refine⟨rfl,bt HB.out ?_⟩
 have h1:=HBP.out
 have h2:=HK.out.1
 have h3:=HK2.out.1
 rw[show(w.alloc (.cells #[.slice A n c,.int .i64 r] 25)).heap.size=w.heap.size+1 from World.size_alloc _ _]at h1 ⊢
 exact(h1.trans h2).trans h3
theorem printed61_none (A:Option Addr)(n c:Nat)(r:Int)(p:Int)(w w0:World)(hw0:w0=w.alloc (.cells #[.slice A n c,.int .i64 r] 25))
  (hway:∀w',Below w0.heap.size w0 w'→Calls Tryz.prog 61 #[PV A n c w0.heap.size 0,.int .i64 p] w' fun e w2=>e = .returned (.tuple #[])∧Below w'.heap.size w' w2) :
  Calls Tryz.prog 60 #[.agg #[.slice A n c,.int .i64 r],.int .i64 p,.func (.func 61) #[] #[]] w fun e w'=>e = .returned (.string ⟨#[]⟩)∧Below w.heap.size w w':=by
 have hsz:w0.heap.size=w.heap.size+1:=by rw[hw0,World.size_alloc]
 have hX:=(Bx.new w 25 [.slice A n c,.int .i64 r])
 have hXp:=hX.alloc (.cells #[.pointer none,.slice none 0 0] 118)
 have hbp:=heap1 w0 (.cells #[.pointer none,.slice none 0 0] 118)
 have HC:=Lib.hid (hway _ hbp)
 have HBK:=Lib.hid (show(w0.alloc (.cells #[.pointer none,.slice none 0 0] 118)).heap[w0.heap.size]?=some (.cells #[.pointer none,.slice none 0 0] 118 (0,0))from Bx.new w0 118 [.pointer none,.slice none 0 0])
 rw[hw0]at hbp
 have HBP:=Lib.hid hbp
 rw[hsz]at HC HBK
 rw[hw0]at HC HBK
 have e0:=(hXp.cell 0).trans rfl
 have HB:=Lib.hid ((heap1 w (.cells #[.slice A n c,.int .i64 r] 25)))
 have HSZ:=Lib.hid hsz
 unfold PV at HC
 clear hway hX hXp hbp
 have HW0:=Lib.hid hw0
 clear hw0 hsz
 go_enter Tryz.func60,Tryz.ntmps60
 go_wp2_with (go_at_call 61;refine HC.out.mono ?_)
 rintro e w1 ⟨rfl,hk⟩
 have hbk1:=(hk.block (w.heap.size+1) (by rw[World.size_alloc,World.size_alloc];omega)).trans HBK.out
 have HK:=Lib.hid hk
 have HC2:=Lib.hid (string_new (w.heap.size+1) w1 hbk1)
 clear hk hbk1 e0
 go_wp2_with (go_at_call 118;refine HC2.out.mono ?_)
 rintro e w2 ⟨rfl,hk2⟩
 have HK2:=Lib.hid hk2
 clear hk2
 go_wp2
 go_ret
 exact⟨rfl,bt HB.out (by have h1:=HBP.out;rw[show(w.alloc (.cells #[.slice A n c,.int .i64 r] 25)).heap.size=w.heap.size+1 from World.size_alloc _ _]at h1 ⊢;exact(h1.trans (HK.out.mono (by rw[World.size_alloc,World.size_alloc];omega))).trans (HK2.out.mono (by have:=HK.out.size;rw[World.size_alloc,World.size_alloc]at this;omega)))⟩
end
end Go.Proofs.YteecfjhjllajlaaGreatDoor
