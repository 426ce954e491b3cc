/- PROVED: Xv Xw. No more condition. -/
import Derived.Test.YteecfjhjllajlaaGreatDoorM17
import Derived.Test.YteecfjhjllajlaaGreatDoorM23
set_option maxHeartbeats 8000000
set_option maxRecDepth 100000
namespace Go.Proofs.YteecfjhjllajlaaGreatDoor
open Go.Lib (hid)
open Go Go.RowKit
section
open Tr (Bx aa bt eH Ints)
theorem oz {base n c:Nat}{A:Option Addr}{l:List Int}{w:World}(h:w.ownsRow base 3 1 (.slice A n c) l.length (l.map (Value.int .i64))):Ints w A l:=by
 obtain⟨A',c',e,hI⟩:=uY h;injection e with e1
 rw[e1];exact hI
theorem xc {q:Int->Bool}{ks:List Int}{i:Nat}(h:i<ks.length):(ks.take (i+1)).filter q=(ks.take i).filter q++(if q ks[i] then [ks[i]] else []):=by
 rw[List.take_succ_eq_append_getElem h,List.filter_append];congr 1;cases hq:q ks[i]<;>simp[hq]
theorem Ls {w0:World}{A:Option Addr}{l:List Tr.Nd}{n:Nat}(c b:Nat)(hx:nR w0 A l n)(hcp:uR w0 A l)(hs:sM l)(p:Nat)(t:List UInt8)(w:World)(hp:p<n)(hk:(ag l p).kd=3)(hb:Below w0.heap.size w0 w)(h:Pg w0.heap.size b t w)(hl:t.length+(nQ l n p).length<=140737488355328) :
  Calls Tryz.prog 120 #[PV A n c b 0,.int .i64 (p:Int)] w (aK w0.heap.size b (t++nQ l n p) (.tuple #[]) w):=by
 have hpl:p<l.length:=by rw[<- hx.len];exact hp
 obtain⟨ks',bl,e1,hbl,hbk,hks'⟩:=hs.pr p hpl hk;have hfew:=hs.few p hpl;have hall:∀k ∈ (ag l p).ks,∃k2:Nat,k=(k2:Int)/\k2<n:=λk hk'=>by
  rw[e1]at hk';rcases List.mem_append.1 hk' with h |h
  ·obtain⟨k2,e,h2,_⟩:=hks' k h;exact⟨k2,e,by omega⟩
  ·exact⟨bl,List.mem_singleton.1 h,by omega⟩
 have hgl:(ag l p).ks.getLastD 0=(bl:Int):=by rw[e1];simp
 have hm1:(ag l p).ks.length=ks'.length+1:=by rw[e1];simp
 have hlast:(ag l p).ks[ks'.length]?=some (bl:Int):=by rw[e1];simp
 unfold nQ at hl |-;rw[hgl]at hl |-;obtain⟨L4,hL4⟩:∃L4,L4=(ag l p).ks.filter λk=>(ag l k).kd==4:=⟨_,rfl⟩
 obtain⟨L5,hL5⟩:∃L5,L5=(ag l p).ks.filter λk=>(ag l k).kd==5:=⟨_,rfl⟩
 rw[<- hL4,<- hL5]at hl |-;have hl4:L4.length<=4000:=by rw[hL4];exact Nat.le_trans (List.length_filter_le _ _) hfew
 have hl5:L5.length<=4000:=by rw[hL5];exact Nat.le_trans (List.length_filter_le _ _) hfew
 have h4in:∀k ∈ L4,∃k2:Nat,k=(k2:Int)/\k2<n:=λk hk'=>hall k (List.mem_filter.1 (by rw[hL4]at hk';exact hk')).1
 have h5in:∀k ∈ L5,∃k2:Nat,k=(k2:Int)/\k2<n:=λk hk'=>hall k (List.mem_filter.1 (by rw[hL5]at hk';exact hk')).1
 have HLI:=hid (λ(S:Option Addr) (cc:Nat) t' w' (q:Below w0.heap.size w0 w') (h':Pg w0.heap.size b t' w') (hI:∀w2,Kp w0.heap.size b w' w2->Ints w2 S L4) (hl':t'.length+(nP (L4.map (lY l))).length<=140737488355328)=>
  Bg A n c b 0 0 S L4.length cc L4 (lY l) t' w' h' rfl (by omega) hI (λk hk' t2 w2 q2 h2 hl2=>by
   obtain⟨k2,rfl,hk2⟩:=h4in k hk'
   exact zy c b 0 hx k2 t2 w2 hk2 (q.trans q2.1) h2 hl2) hl')
 have HBK:=hid (λ(S:Option Addr) (cc:Nat) t' w' (q:Below w0.heap.size w0 w') (h':Pg w0.heap.size b t' w') (hI:∀w2,Kp w0.heap.size b w' w2->Ints w2 S L5) (hl':t'.length+(fM l (nL l n n) 0 bl L5).length<=140737488355328)=>
  (show Calls Tryz.prog 194 #[PV A n c b 0,.int .i64 (bl:Int),.slice S L5.length cc] w' (aK w0.heap.size b (t'++fM l (nL l n n) 0 bl L5) (.tuple #[]) w')from zB c b 0 hx (nL l n n) bl S L5.length cc L5 t' w' (by omega) (by omega) rfl (by omega) (by have:=hs.few bl (by omega);omega) hI h5in (λk' hk' t2 w2 q2 h2 hl2=>by
   obtain⟨k2,rfl,hlt,hst⟩:=hs.bl bl (by omega) hbk k' hk'
   exact GD c b hx hcp hs n (0+1) k2 t2 w2 (by omega) (by omega) hst (by have:=hx.few;omega) q2 h2 hl2) q h' hl'))
 obtain⟨bA,off,K,cK,rfl,hlt,c0,c1,c2,c3,c4,z5⟩:=aZ hx.nds hb p hpl;rw[<- aS hpl]at c0 c1 c2 c3 c4 z5;rw[hk]at c0;have hpz:(p:Int)<(n:Int):=by omega
 obtain⟨m,hm⟩:∃m,m=(ag l p).ks.length:=⟨_,rfl⟩;rw[<- hm]at c4 hm1 hfew;obtain⟨bk,ok,rfl,hbk2,hck0⟩:=z5 (by omega);have HCK:=hid hck0;have HN:=hid (show∀(k:Nat),k<n->∀w',Below w0.heap.size w0 w'->w'.cell? ⟨bA,off+k*5,none⟩=some (.int .i64 (ag l k).kd)from λk hk2 w' q=>by
  obtain⟨bX,oX,KX,cX,eX,_,q0,_⟩:=aZ hx.nds q k (by rw[<- hx.len];exact hk2);injection eX with eX
  injection eX with x1 x2
  rw[x1,x2,aS (by rw[<- hx.len];exact hk2)];exact q0)
 obtain⟨F4,hF4⟩:∃F:Nat->List Int,F=λi=>((ag l p).ks.take i).filter λk=>(ag l k).kd==4:=⟨_,rfl⟩
 obtain⟨F5,hF5⟩:∃F:Nat->List Int,F=λi=>((ag l p).ks.take i).filter λk=>(ag l k).kd==5:=⟨_,rfl⟩
 have f40:F4 0=[]:=by rw[hF4];rfl
 have f50:F5 0=[]:=by rw[hF5];rfl
 have f4m:F4 m=L4:=by rw[hF4,hL4,hm];show List.filter _ (List.take _ _)=_;rw[List.take_length]
 have f5m:F5 m=L5:=by rw[hF5,hL5,hm];show List.filter _ (List.take _ _)=_;rw[List.take_length]
 have f4s:∀(i:Nat) (hi:i<(ag l p).ks.length),F4 (i+1)=F4 i++(if (ag l (ag l p).ks[i]).kd=4 then [(ag l p).ks[i]] else []):=λi hi=>by
  rw[hF4];show List.filter _ (List.take _ _)=_;rw[xc hi];simp
 have f5s:∀(i:Nat) (hi:i<(ag l p).ks.length),F5 (i+1)=F5 i++(if (ag l (ag l p).ks[i]).kd=5 then [(ag l p).ks[i]] else []):=λi hi=>by
  rw[hF5];show List.filter _ (List.take _ _)=_;rw[xc hi];simp
 have f4l:∀i,(F4 i).length<=4000:=λi=>by rw[hF4];exact Nat.le_trans (List.length_filter_le _ _) (Nat.le_trans (List.length_take_le' _ _) (by omega))
 have f5l:∀i,(F5 i).length<=4000:=λi=>by rw[hF5];exact Nat.le_trans (List.length_filter_le _ _) (Nat.le_trans (List.length_take_le' _ _) (by omega))
 have H4S:=hid f4s;have H5S:=hid f5s;have H40:=hid f40;have H50:=hid f50;have H4M:=hid f4m;have H5M:=hid f5m;have H4L:=hid f4l;have H5L:=hid f5l;have HALL:=hid hall;have HM:=hid hm;have HLAST:=hid hlast;have HM1:=hid hm1;have hmp:0<m:=by omega
 have hm4:m<=4000:=hfew;clear hF4 hF5 hL4 hL5 f40 f50 f4m f5m f4s f5s f4l f5l hlast hm1 hfew;unfold bu at hl |-;generalize nP (L4.map (lY l))=yq at *
 generalize fM l (nL l n n) 0 bl L5=yb at *
 have HB:=hid hb;have H:=hid h;have hbw:=h.bw;have hbl2:=h.lt;have hsz:=hb.size;unfold PV at HLI HBK;unfold PV;generalize (ag l p).n=nn at *
 generalize (ag l p).pl=pl at *
 generalize (ag l p).tx=tx at *
 generalize (ag l p).ks=ks at *
 obtain⟨yt,hyt⟩:∃yt,yt=(if nn=0 then [] else [32]++qX nn:List UInt8):=⟨_,rfl⟩;rw[<- hyt]at hl |-;have HYT:=hid hyt;clear hyt;have HL:=hid hl;have HPL0:=hid (show PL w0.heap.size b t w [.slice (some ⟨bA,off,none⟩) n c,.func (.func 117) #[.pointer (some ⟨b,0,none⟩)] #[],.int .i64 0] [.int .i64 3,.int .i64 nn,.int .i64 pl,.string tx,.slice (some ⟨bk,ok,none⟩) m cK] (.slice none 0 0) (.slice none 0 0) [] [] ((w.alloc (.cells #[.slice (some ⟨bA,off,none⟩) n c,.func (.func 117) #[.pointer (some ⟨b,0,none⟩)] #[],.int .i64 0] 73)).alloc (.cells #[.int .i64 3,.int .i64 nn,.int .i64 pl,.string tx,.slice (some ⟨bk,ok,none⟩) m cK] 37))from by
  have b1:=jK w [.slice (some ⟨bA,off,none⟩) n c,.func (.func 117) #[.pointer (some ⟨b,0,none⟩)] #[],.int .i64 0] [.int .i64 3,.int .i64 nn,.int .i64 pl,.string tx,.slice (some ⟨bk,ok,none⟩) m cK];exact⟨(h.alloc _).alloc _,((Kp.refl w0.heap.size b w).alloc hbw _).alloc (by rw[World.size_alloc];omega) _,b1.1,b1.2,World.ownsRow_nil _ _ 3 1,World.ownsRow_nil _ _ 3 1,λk e1=>by simp[Value.ownBlock]at e1,by rw[World.size_alloc,World.size_alloc];omega⟩)
 clear hks' e1 hall hgl h4in h5in hb h hl hx hs hcp hpl z5 hck0 hm hbl hbk;go_enter Tryz.func120,Tryz.ntmps120
 go_wp2
 go_loopg [5,6,8,17] m (λg a5 a6 _ a17 wr=>∃i:Nat,a17=.int .i64 (i:Int)/\i<=m/\g=m-i/\PL w0.heap.size b t w [.slice (some ⟨bA,off,none⟩) n c,.func (.func 117) #[.pointer (some ⟨b,0,none⟩)] #[],.int .i64 0] [.int .i64 3,.int .i64 nn,.int .i64 pl,.string tx,.slice (some ⟨bk,ok,none⟩) m cK] a5 a6 (F4 i) (F5 i) wr)
 case atStart=>exact⟨0,rfl,Nat.zero_le _,rfl,by rw[H40.out,H50.out];exact HPL0.out⟩
 case round=>
  obtain⟨i,rfl,him,rfl,hpl⟩:=hrel;have HPL:=hid hpl;have hwrB:w0.heap.size<=wr.heap.size:=hpl.pg.bw;by_cases hlt2:i<m
  ·have hlz:(i:Int)<(m:Int):=by omega
   have hik:i<ks.length:=by rw[<- HM.out];exact hlt2
   have hb3:=HB.out.trans hpl.kp.1;have cS:=(hb3.cell (p:=⟨bk,ok+i,none⟩) hbk2).trans (HCK.out i hik);obtain⟨k2,ek,hk2n⟩:=HALL.out ks[i] (List.getElem_mem hik);have h4s:=H4S.out i hik;have h5s:=H5S.out i hik;rw[ek]at cS h4s h5s;have hkz:(k2:Int)<(n:Int):=by omega
   have n0:=HN.out k2 hk2n wr hb3;have e0:=(hpl.bx.cell 0).trans rfl;have h1:IntKind.wrap .i64 1=1:=rfl;clear ek h1;generalize (ag l (k2:Int)).kd=kd at *
   by_cases k4:kd=4
   ·rw[if_pos k4]at h4s;rw[if_neg (by rw[k4];decide),List.append_nil]at h5s;subst k4;have HS4:=hid h4s;have HS5:=hid h5s;clear h4s h5s hb3 hpl;go_wp2_with (at_builtin;refine wU rfl _ _ rfl wr (w.heap.size+2) _ (F4 i) (k2:Int) HPL.out.o5 HPL.out.sz (by have:=H4L.out i;omega) rfl rfl ?_;intro v' w' h1 h2 h3;have HQ:=hid (HPL.out.app5 (by omega) h1 h2 h3);clear h1 h2 h3);clear cS n0 e0;go_wp2
    go_roundg (m-(i+1))
    case measure=>go_light;omega
    case rel=>
     go_light
     exact⟨i+1,by go_num,by omega,rfl,by rw[HS4.out,HS5.out];exact HQ.out⟩
   ·by_cases k5:kd=5
    ·rw[if_neg k4,List.append_nil]at h4s;rw[if_pos k5]at h5s;subst k5;have HS4:=hid h4s;have HS5:=hid h5s;clear h4s h5s hb3 hpl k4;go_wp2_with (at_builtin;refine wU rfl _ _ rfl wr (w.heap.size+2) _ (F5 i) (k2:Int) HPL.out.o6 HPL.out.sz (by have:=H5L.out i;omega) rfl rfl ?_;intro v' w' h1 h2 h3;have HQ:=hid (HPL.out.app6 (by omega) h1 h2 h3);clear h1 h2 h3);clear cS n0 e0;go_wp2
     go_roundg (m-(i+1))
     case measure=>go_light;omega
     case rel=>
      go_light
      exact⟨i+1,by go_num,by omega,rfl,by rw[HS4.out,HS5.out];exact HQ.out⟩
    ·rw[if_neg k4,List.append_nil]at h4s;rw[if_neg k5,List.append_nil]at h5s;have HS4:=hid h4s;have HS5:=hid h5s;clear h4s h5s hb3 hpl;go_wp2
     go_roundg (m-(i+1))
     case measure=>go_light;omega
     case rel=>
      go_light
      exact⟨i+1,by go_num,by omega,rfl,by rw[HS4.out,HS5.out];exact HPL.out⟩
  ·obtain rfl:i=m:=by omega
   have hlz:¬(i:Int)<(i:Int):=by omega
   rw[H4M.out,H5M.out]at hpl;obtain⟨A5,q5,rfl,_⟩:=uY hpl.o5;obtain⟨A6,q6,rfl,_⟩:=uY hpl.o6;have HPM:=hid hpl;have hb4:=HB.out.trans hpl.kp.1;have e1:=(hpl.bx.cell 1).trans rfl;have n3:=(hpl.bn.cell 3).trans rfl;clear hpl HPL;go_wp2_with (go_at_call 117;refine(aC w0.heap.size b t [[112,114,111,99,32],tx.data.toList] _ HPM.out.pg (by have:=HL.out;simp only[List.length_append,List.length_cons,List.length_nil,List.flatten_cons,List.flatten_nil]at this |-;omega) (by simp) 2 rfl _ (by simp[iq];rfl) _ rfl).mono ?_)
   first
   |(rintro e w1 ⟨rfl,q4⟩;obtain⟨hp1,hk1⟩:=q4)
   |(rintro e w1 ⟨rfl,q4⟩;intro hp1 hk1)
   have HX1:=hid (show S2 w.heap.size (w.heap.size+1) [.slice (some ⟨bA,off,none⟩) n c,.func (.func 117) #[.pointer (some ⟨b,0,none⟩)] #[],.int .i64 0] [.int .i64 3,.int .i64 nn,.int .i64 pl,.string tx,.slice (some ⟨bk,ok,none⟩) i cK] w1 from⟨Bx.kp HPM.out.bx hk1 (by omega) (by decide),Bx.kp HPM.out.bn hk1 (by omega) (by decide)⟩);have HP1:=hid hp1;have HW1:=hid (HPM.out.kp.trans hk1);have HO5:=hid (lL HPM.out.o5 hk1 (by omega));have HO6:=hid (lL HPM.out.o6 hk1 (by omega));clear hp1 hk1 e1 n3 HPM;have e0:=(HX1.out.1.cell 0).trans rfl;have e1:=(HX1.out.1.cell 1).trans rfl;have e2:=(HX1.out.1.cell 2).trans rfl;go_wp2_with (go_at_call 192;refine(HLI.out A5 q5 _ _ (HB.out.trans HW1.out.1) HP1.out (λw2 q=>oz (lL HO5.out q (by omega))) (by have:=HL.out;simp only[List.length_append,List.length_cons,List.length_nil]at this |-;omega)).mono ?_)
   first
   |(rintro e w2 ⟨rfl,q4⟩;obtain⟨hp2,hk2⟩:=q4)
   |(rintro e w2 ⟨rfl,q4⟩;intro hp2 hk2)
   have HX2:=hid (HX1.out.kp hk2 (by omega) (by omega));have HP2:=hid hp2;have HW2:=hid (HW1.out.trans hk2);have HO7:=hid (lL HO6.out hk2 (by omega));clear hp2 hk2 e0 e1 e2 HX1 HP1 HW1 HO5 HO6;have n1:=(HX2.out.2.cell 1).trans rfl;by_cases hn0:nn=0
   ·subst hn0;have hyt:=HYT.out;rw[if_pos rfl]at hyt;subst hyt;have HSP:=hid (show SP w.heap.size (w.heap.size+1) [.slice (some ⟨bA,off,none⟩) n c,.func (.func 117) #[.pointer (some ⟨b,0,none⟩)] #[],.int .i64 0] [.int .i64 3,.int .i64 0,.int .i64 pl,.string tx,.slice (some ⟨bk,ok,none⟩) i cK] bk (ok+(i-1)) (bl:Int) w2 from⟨HX2.out.1,HX2.out.2,by
     have hj:i-1<ks.length:=by have:=HM.out;omega
     have:=((HB.out.trans HW2.out.1).cell (p:=⟨bk,ok+(i-1),none⟩) hbk2).trans (HCK.out (i-1) hj);rw[this];have h2:=HLAST.out;rw[show ks'.length=i-1 by have:=HM1.out;omega,List.getElem?_eq_getElem hj]at h2;injection h2 with h2
     rw[h2]⟩)
    go_upto_region 16 with(fail)
    obtain⟨W5,hW5⟩:∃W5:World,{w2 with drawn:=w2.drawn+1}=W5:=⟨_,rfl⟩;have hkd:Kp w0.heap.size b w2 W5:=by rw[<- hW5];exact⟨Below.drew (Below.refl _ _),(Lib.OthersKept.refl _ _ w2).drew⟩
    have hS:=HSP.out.kp hkd (by omega) (by omega) hbk2;have hP5:=(show∀T,Pg w0.heap.size b T w2->Pg w0.heap.size b T W5 from λT q=>by rw[<- hW5];exact q) _ HP2.out;have hw5:=HW2.out.trans hkd;have hb5:=HB.out.trans hw5.1;have hO5:=lL HO7.out hkd (by omega);refine wp_region_held (S:=SP w.heap.size (w.heap.size+1) [.slice (some ⟨bA,off,none⟩) n c,.func (.func 117) #[.pointer (some ⟨b,0,none⟩)] #[],.int .i64 0] [.int .i64 3,.int .i64 0,.int .i64 pl,.string tx,.slice (some ⟨bk,ok,none⟩) i cK] bk (ok+(i-1)) (bl:Int)) (by kernel_rfl) ?_;rw[hW5];clear hW5 HSP;refine aG 0 (.agg #[.slice (some ⟨bA,off,none⟩) n c,.func (.func 117) #[.pointer (some ⟨b,0,none⟩)] #[],.int .i64 0]) (by kernel_rfl) rfl rfl (λ_ _ _ h=>h) rfl (ak rfl rfl (λw' q=>aV ((q.1.cell 0).trans rfl) ((q.1.cell 1).trans rfl) ((q.1.cell 2).trans rfl))) hS ?_;simp only[ap];refine aG 1 (.pointer (some ⟨w.heap.size+1,4,none⟩)) (by kernel_rfl) rfl rfl (λ_ _ _ h=>h) rfl (ay rfl rfl (aD _)) hS ?_;simp only[ap];refine aG 2 (.slice (some ⟨bk,ok,none⟩) i cK) (by kernel_rfl) rfl rfl (λ_ _ _ h=>h) rfl (ak rfl rfl (λw' q=>aH ((q.2.1.cell 4).trans rfl))) hS ?_;simp only[ap];refine aG 3 (.pointer (some ⟨w.heap.size+1,4,none⟩)) (by kernel_rfl) rfl rfl (λ_ _ _ h=>h) rfl (ay rfl rfl (aD _)) hS ?_;simp only[ap]
    refine aG 4 (.slice (some ⟨bk,ok,none⟩) i cK) (by kernel_rfl) rfl rfl (λ_ _ _ h=>h) rfl (ak rfl rfl (λw' q=>aH ((q.2.1.cell 4).trans rfl))) hS ?_;simp only[ap];refine aG 5 (.int .i64 (i:Int)) (by kernel_rfl) rfl rfl (λ_ _ _ h=>h) rfl (uj rfl rfl) hS ?_;simp only[ap];refine aG 6 (.int .i64 ((i-1:Nat):Int)) (by kernel_rfl) rfl rfl (λ_ _ _ h=>h) rfl (wK rfl rfl rfl (λw=>by simp[go_sem]) (λw=>(O3 i (by omega) w).trans (by rw[show((i:Int)-1)=((i-1:Nat):Int)by omega]))) hS ?_;simp only[ap];refine aG 7 (.pointer (some ⟨bk,ok+(i-1),none⟩)) (by kernel_rfl) rfl rfl (λ_ _ _ h=>h) rfl (bq rfl rfl rfl (λw=>aN bk ok i cK (i-1) (by omega) w)) hS ?_;simp only[ap];refine aG 8 (.int .i64 (bl:Int)) (by kernel_rfl) rfl rfl (λ_ _ _ h=>h) rfl (ak rfl rfl (λw' q=>aB q.2.2)) hS ?_;simp only[ap];refine aG 9 (.slice A6 L5.length q6) (by kernel_rfl) rfl rfl (λ_ _ _ h=>h) rfl (dn rfl rfl) hS ?_;simp only[ap]
    refine aQ 10 ({dst:=some 71,op:=Op.call {callee:=Callee.value (Operand.func 194),args := #[Operand.tmp 61,Operand.tmp 69,Operand.tmp 70],argTypes := #[73,3,35]},type:=0,pos := "printer.go:69",after := #[{on:=0,ground:=Ground.data},{on:=8,ground:=Ground.data},{on:=9,ground:=Ground.data}],guard:=none}:Oper) (args := #[.agg #[.slice (some ⟨bA,off,none⟩) n c,.func (.func 117) #[.pointer (some ⟨b,0,none⟩)] #[],.int .i64 0],.int .i64 (bl:Int),.slice A6 L5.length q6]) lw rfl rfl (by kernel_rfl) rfl rfl (HBK.out A6 q6 _ _ hb5 hP5 (λw2 q=>oz (lL hO5 q (by omega))) (by have:=HL.out;simp only[List.length_append,List.length_cons,List.length_nil]at this |-;omega)) ?_;rintro e W6 ⟨rfl,hp6,hk6⟩;have hS6:=hS.kp hk6 (by omega) (by omega) hbk2;refine .inr ⟨_,rfl,hS6,?_⟩;simp only[ap];refine wpAnyH_done (by kernel_rfl) ?_ _;have HP6:=hid hp6;have HW6:=hid (hw5.trans hk6);have e1:=(hS6.1.cell 1).trans rfl;clear hS hP5 hw5 hkd hb5 HX2 HP2 HW2 HO7 hp6 hk6 hS6 hO5;go_wp2_with (go_at_call 117;refine(aC w0.heap.size b _ [[10]] _ HP6.out (by have:=HL.out;simp only[List.length_append,List.length_cons,List.length_nil,List.flatten_cons,List.flatten_nil]at this |-;omega) (by simp) 1 rfl _ (by rfl) _ rfl).mono ?_);rintro e w9 ⟨rfl,hp9,hk9⟩;have HP9:=hid hp9;have HW9:=hid (HW6.out.trans hk9);clear hp9 hk9 e1;go_wp2
    go_end0
    exact⟨rfl,by simpa using HP9.out,HW9.out⟩
   ·have hyt:=HYT.out;rw[if_neg hn0]at hyt;subst hyt
    go_upto_region 15 with(fail)
    obtain⟨W5,hW5⟩:∃W5:World,{w2 with drawn:=w2.drawn+1}=W5:=⟨_,rfl⟩;have hkd:Kp w0.heap.size b w2 W5:=by rw[<- hW5];exact⟨Below.drew (Below.refl _ _),(Lib.OthersKept.refl _ _ w2).drew⟩
    have hS:=HX2.out.kp hkd (by omega) (by omega);have hP5:=(show∀T,Pg w0.heap.size b T w2->Pg w0.heap.size b T W5 from λT q=>by rw[<- hW5];exact q) _ HP2.out;have hw5:=HW2.out.trans hkd;refine wp_region_held (S:=S2 w.heap.size (w.heap.size+1) [.slice (some ⟨bA,off,none⟩) n c,.func (.func 117) #[.pointer (some ⟨b,0,none⟩)] #[],.int .i64 0] [.int .i64 3,.int .i64 nn,.int .i64 pl,.string tx,.slice (some ⟨bk,ok,none⟩) i cK]) (by kernel_rfl) ?_;rw[hW5];clear hW5;refine aG 0 (.pointer (some ⟨w.heap.size,1,none⟩)) (by kernel_rfl) rfl rfl (λ_ _ _ h=>h) rfl (ay rfl rfl (cZ _)) hS ?_;simp only[ap];refine aG 1 (.func (.func 117) #[.pointer (some ⟨b,0,none⟩)] #[]) (by kernel_rfl) rfl rfl (λ_ _ _ h=>h) rfl (ak rfl rfl (λw' q=>fF ((q.1.cell 1).trans rfl))) hS ?_;simp only[ap];refine aG 2 (.pointer (some ⟨w.heap.size+1,1,none⟩)) (by kernel_rfl) rfl rfl (λ_ _ _ h=>h) rfl (ay rfl rfl (jT _)) hS ?_;simp only[ap];refine aG 3 (.int .i64 nn) (by kernel_rfl) rfl rfl (λ_ _ _ h=>h) rfl (ak rfl rfl (λw' q=>aB ((q.2.cell 1).trans rfl))) hS ?_;simp only[ap];refine aQ 4 ({dst:=some 58,op:=Op.call {callee:=Callee.value (Operand.func 193),args := #[Operand.tmp 57],argTypes := #[3]},type:=9,pos := "printer.go:67",after := #[{on:=3,ground:=Ground.data}],guard:=none}:Oper) (args := #[.int .i64 nn]) CL rfl rfl (by kernel_rfl) rfl rfl (rC nn W5) ?_;rintro e w3 ⟨rfl,rfl⟩;refine .inr ⟨_,rfl,hS,?_⟩;simp only[ap]
    have hS3:S2 w.heap.size (w.heap.size+1) [.slice (some ⟨bA,off,none⟩) n c,.func (.func 117) #[.pointer (some ⟨b,0,none⟩)] #[],.int .i64 0] [.int .i64 3,.int .i64 nn,.int .i64 pl,.string tx,.slice (some ⟨bk,ok,none⟩) i cK] (W5.alloc (.cells #[.string ⟨#[32]⟩,.string (lZ (qX nn))] 9)):=⟨hS.1.alloc _,hS.2.alloc _⟩;refine dQ 5 ({dst:=some 59,op:=Op.buildSlice 40 2 #[(0,Operand.const (Value.string {data := #[32]})),(1,Operand.tmp 58)],type:=40,pos := "printer.go:67",after := #[{on:=4,ground:=Ground.data}],guard:=none}:Oper) rfl (by kernel_rfl) rfl (uQ rfl rfl rfl ⟨hS3,?_⟩);simp only[ap];refine kE 6 ({dst:=some 60,op:=Op.call {callee:=Callee.value (Operand.tmp 55),args := #[Operand.tmp 59],argTypes := #[40]},type:=0,pos := "printer.go:67",after := #[{on:=1,ground:=Ground.data},{on:=5,ground:=Ground.data},{on:=4,ground:=Ground.chain}],guard:=none}:Oper) (pre := #[.pointer (some ⟨b,0,none⟩)]) (args := #[.slice (some ⟨W5.heap.size,0,none⟩) 2 2]) kD rfl rfl (by kernel_rfl) rfl rfl rfl (aC w0.heap.size b _ [[32],qX nn] W5 hP5 (by have:=HL.out;simp only[List.length_append,List.length_cons,List.length_nil,List.flatten_cons,List.flatten_nil]at this |-;omega) (by simp) 2 rfl _ (by simp;rfl) _ rfl) ?_;rintro e w3 ⟨rfl,hp3,hk3⟩;have hS4:=hS.kp hk3 (by omega) (by omega);refine .inr ⟨_,rfl,hS4,?_⟩;simp only[ap];refine wpAnyH_done (by kernel_rfl) ?_ _;have HX3:=hid hS4;have HP3:=hid hp3;have HW3:=hid (hw5.trans hk3)
    have HO8:=hid (lL (lL HO7.out hkd (by omega)) hk3 (by omega));clear hS hS3 hS4 hP5 hw5 hk3 hp3 hkd n1 HX2 HP2 HW2 HO7;have HSP:=hid (show SP w.heap.size (w.heap.size+1) [.slice (some ⟨bA,off,none⟩) n c,.func (.func 117) #[.pointer (some ⟨b,0,none⟩)] #[],.int .i64 0] [.int .i64 3,.int .i64 nn,.int .i64 pl,.string tx,.slice (some ⟨bk,ok,none⟩) i cK] bk (ok+(i-1)) (bl:Int) w3 from⟨HX3.out.1,HX3.out.2,by
     have hj:i-1<ks.length:=by have:=HM.out;omega
     have:=((HB.out.trans HW3.out.1).cell (p:=⟨bk,ok+(i-1),none⟩) hbk2).trans (HCK.out (i-1) hj);rw[this];have h2:=HLAST.out;rw[show ks'.length=i-1 by have:=HM1.out;omega,List.getElem?_eq_getElem hj]at h2;injection h2 with h2
     rw[h2]⟩)
    go_upto_region 16 with(fail)
    obtain⟨W5,hW5⟩:∃W5:World,{w3 with drawn:=w3.drawn+1}=W5:=⟨_,rfl⟩;have hkd:Kp w0.heap.size b w3 W5:=by rw[<- hW5];exact⟨Below.drew (Below.refl _ _),(Lib.OthersKept.refl _ _ w3).drew⟩
    have hS:=HSP.out.kp hkd (by omega) (by omega) hbk2;have hP5:=(show∀T,Pg w0.heap.size b T w3->Pg w0.heap.size b T W5 from λT q=>by rw[<- hW5];exact q) _ HP3.out;have hw5:=HW3.out.trans hkd;have hb5:=HB.out.trans hw5.1;have hO5:=lL HO8.out hkd (by omega);refine wp_region_held (S:=SP w.heap.size (w.heap.size+1) [.slice (some ⟨bA,off,none⟩) n c,.func (.func 117) #[.pointer (some ⟨b,0,none⟩)] #[],.int .i64 0] [.int .i64 3,.int .i64 nn,.int .i64 pl,.string tx,.slice (some ⟨bk,ok,none⟩) i cK] bk (ok+(i-1)) (bl:Int)) (by kernel_rfl) ?_;rw[hW5];clear hW5 HSP;refine aG 0 (.agg #[.slice (some ⟨bA,off,none⟩) n c,.func (.func 117) #[.pointer (some ⟨b,0,none⟩)] #[],.int .i64 0]) (by kernel_rfl) rfl rfl (λ_ _ _ h=>h) rfl (ak rfl rfl (λw' q=>aV ((q.1.cell 0).trans rfl) ((q.1.cell 1).trans rfl) ((q.1.cell 2).trans rfl))) hS ?_;simp only[ap];refine aG 1 (.pointer (some ⟨w.heap.size+1,4,none⟩)) (by kernel_rfl) rfl rfl (λ_ _ _ h=>h) rfl (ay rfl rfl (aD _)) hS ?_;simp only[ap];refine aG 2 (.slice (some ⟨bk,ok,none⟩) i cK) (by kernel_rfl) rfl rfl (λ_ _ _ h=>h) rfl (ak rfl rfl (λw' q=>aH ((q.2.1.cell 4).trans rfl))) hS ?_;simp only[ap];refine aG 3 (.pointer (some ⟨w.heap.size+1,4,none⟩)) (by kernel_rfl) rfl rfl (λ_ _ _ h=>h) rfl (ay rfl rfl (aD _)) hS ?_;simp only[ap]
    refine aG 4 (.slice (some ⟨bk,ok,none⟩) i cK) (by kernel_rfl) rfl rfl (λ_ _ _ h=>h) rfl (ak rfl rfl (λw' q=>aH ((q.2.1.cell 4).trans rfl))) hS ?_;simp only[ap];refine aG 5 (.int .i64 (i:Int)) (by kernel_rfl) rfl rfl (λ_ _ _ h=>h) rfl (uj rfl rfl) hS ?_;simp only[ap];refine aG 6 (.int .i64 ((i-1:Nat):Int)) (by kernel_rfl) rfl rfl (λ_ _ _ h=>h) rfl (wK rfl rfl rfl (λw=>by simp[go_sem]) (λw=>(O3 i (by omega) w).trans (by rw[show((i:Int)-1)=((i-1:Nat):Int)by omega]))) hS ?_;simp only[ap];refine aG 7 (.pointer (some ⟨bk,ok+(i-1),none⟩)) (by kernel_rfl) rfl rfl (λ_ _ _ h=>h) rfl (bq rfl rfl rfl (λw=>aN bk ok i cK (i-1) (by omega) w)) hS ?_;simp only[ap];refine aG 8 (.int .i64 (bl:Int)) (by kernel_rfl) rfl rfl (λ_ _ _ h=>h) rfl (ak rfl rfl (λw' q=>aB q.2.2)) hS ?_;simp only[ap];refine aG 9 (.slice A6 L5.length q6) (by kernel_rfl) rfl rfl (λ_ _ _ h=>h) rfl (dn rfl rfl) hS ?_;simp only[ap]
    refine aQ 10 ({dst:=some 71,op:=Op.call {callee:=Callee.value (Operand.func 194),args := #[Operand.tmp 61,Operand.tmp 69,Operand.tmp 70],argTypes := #[73,3,35]},type:=0,pos := "printer.go:69",after := #[{on:=0,ground:=Ground.data},{on:=8,ground:=Ground.data},{on:=9,ground:=Ground.data}],guard:=none}:Oper) (args := #[.agg #[.slice (some ⟨bA,off,none⟩) n c,.func (.func 117) #[.pointer (some ⟨b,0,none⟩)] #[],.int .i64 0],.int .i64 (bl:Int),.slice A6 L5.length q6]) lw rfl rfl (by kernel_rfl) rfl rfl (HBK.out A6 q6 _ _ hb5 hP5 (λw2 q=>oz (lL hO5 q (by omega))) (by have:=HL.out;simp only[List.length_append,List.length_cons,List.length_nil,List.flatten_cons,List.flatten_nil]at this |-;omega)) ?_;rintro e W6 ⟨rfl,hp6,hk6⟩;have hS6:=hS.kp hk6 (by omega) (by omega) hbk2;refine .inr ⟨_,rfl,hS6,?_⟩;simp only[ap];refine wpAnyH_done (by kernel_rfl) ?_ _;have HP6:=hid hp6;have HW6:=hid (hw5.trans hk6);have e1:=(hS6.1.cell 1).trans rfl;clear hS hP5 hw5 hkd hb5 HX3 HP3 HW3 HO8 hp6 hk6 hS6 hO5;go_wp2_with (go_at_call 117;refine(aC w0.heap.size b _ [[10]] _ HP6.out (by have:=HL.out;simp only[List.length_append,List.length_cons,List.length_nil,List.flatten_cons,List.flatten_nil]at this |-;omega) (by simp) 1 rfl _ (by rfl) _ rfl).mono ?_);rintro e w9 ⟨rfl,hp9,hk9⟩;have HP9:=hid hp9;have HW9:=hid (HW6.out.trans hk9);clear hp9 hk9 e1;go_wp2
    go_end0
    exact⟨rfl,by simpa using HP9.out,HW9.out⟩
end
section
open Tr (Bx aa bt eH Ints)
theorem BG {w0:World}{A:Option Addr}{l:List Tr.Nd}{n:Nat}(c b:Nat)(hx:nR w0 A l n)(hcp:uR w0 A l)(hs:sM l)(p:Nat)(t:List UInt8)(w:World)(hp:p<n)(hk:(ag l p).kd=1)(hb:Below w0.heap.size w0 w)(h:Pg w0.heap.size b t w)(hl:t.length+(lG l n p).length<=140737488355328) :
  Calls Tryz.prog 61 #[PV A n c b 0,.int .i64 (p:Int)] w (aK w0.heap.size b (t++lG l n p) (.tuple #[]) w):=by
 have hpl:p<l.length:=by rw[<- hx.len];exact hp
 have hall:=hs.pg p hpl hk;have hfew:=hs.few p hpl;have HV:=hid (λ(k2:Nat) t' w' (hk2:k2<n) (q:Below w0.heap.size w0 w') (h':Pg w0.heap.size b t' w') (hl':t'.length+(jg l 0 k2).length<=140737488355328)=>(show Calls Tryz.prog 119 #[PV A n c b 0,.int .i64 (k2:Int)] w' (aK w0.heap.size b (t'++jg l 0 k2) (.tuple #[]) w')from tH c b 0 hx k2 t' w' hk2 (by omega) q h' hl'));have HPR:=hid (λ(k2:Nat) t' w' (hk2:k2<n) (h3:(ag l k2).kd=3) (q:Below w0.heap.size w0 w') (h':Pg w0.heap.size b t' w') (hl':t'.length+(nQ l n k2).length<=140737488355328)=>Ls c b hx hcp hs k2 t' w' hk2 h3 q h' hl');obtain⟨ys,hys⟩:∃ys,ys=(ag l p).ks.map λk=>if (ag l k).kd=2 then jg l 0 k else nQ l n k:=⟨_,rfl⟩
 unfold lG at hl |-;rw[<- hys]at hl |-;obtain⟨bA,off,K,cK,rfl,hlt,c0,c1,c2,c3,c4,z5⟩:=aZ hx.nds hb p hpl;rw[<- aS hpl]at c4 z5;clear c0 c1 c2 c3;have hpz:(p:Int)<(n:Int):=by omega
 have hpn:p<n:=hp;have HN:=hid (show∀(k:Nat),k<n->∀w',Below w0.heap.size w0 w'->w'.cell? ⟨bA,off+k*5,none⟩=some (.int .i64 (ag l k).kd)from λk hk2 w' q=>by
  obtain⟨bX,oX,KX,cX,eX,_,q0,_⟩:=aZ hx.nds q k (by rw[<- hx.len];exact hk2);injection eX with eX
  injection eX with x1 x2
  rw[x1,x2,aS (by rw[<- hx.len];exact hk2)];exact q0)
 have HY:=hid hys;have HALL:=hid hall;have HZ:=hid z5;generalize (ag l p).ks=ks at *
 obtain⟨m,hm⟩:∃m,m=ks.length:=⟨_,rfl⟩;rw[<- hm]at c4;have hm2:m<=4000:=by rw[hm];exact hfew
 have HM:=hid hm;have HL:=hid hl;have HB:=hid hb;have H:=hid h;have hbw:=h.bw;have hbl:=h.lt;have hsz:=hb.size;unfold PV at HV HPR;unfold PV;have HX0:=hid (Bx.new w 73 [.slice (some ⟨bA,off,none⟩) n c,.func (.func 117) #[.pointer (some ⟨b,0,none⟩)] #[],.int .i64 0]);have HP0:=hid (h.alloc (.cells #[.slice (some ⟨bA,off,none⟩) n c,.func (.func 117) #[.pointer (some ⟨b,0,none⟩)] #[],.int .i64 0] 73));have HW0:=hid ((Kp.refl w0.heap.size b w).alloc hbw (.cells #[.slice (some ⟨bA,off,none⟩) n c,.func (.func 117) #[.pointer (some ⟨b,0,none⟩)] #[],.int .i64 0] 73));clear hys hall z5 hm hl hb h hpl hk hs hcp hfew hx;go_enter Tryz.func61,Tryz.ntmps61
 go_wp2
 go_loopg [5,13] m (λg _ a13 wr=>∃i:Nat,a13=.int .i64 (i:Int)/\i<=m/\g=m-i/\Pg w0.heap.size b (t++(ys.take i).flatten) wr/\Kp w0.heap.size b w wr/\Bx wr w.heap.size 73 [.slice (some ⟨bA,off,none⟩) n c,.func (.func 117) #[.pointer (some ⟨b,0,none⟩)] #[],.int .i64 0])
 case atStart=>exact⟨0,rfl,Nat.zero_le _,rfl,by simpa using HP0.out,HW0.out,HX0.out⟩
 case round=>
  obtain⟨i,rfl,him,rfl,hp,hk,hx⟩:=hrel;have HP2:=hid hp;have HW2:=hid hk;have HX2:=hid hx;by_cases hlt2:i<m
  ·have hlz:(i:Int)<(m:Int):=by omega
   have hik:i<ks.length:=by rw[<- HM.out];exact hlt2
   have hb3:=HB.out.trans hk.1;obtain⟨bS,oS,rfl,hbS,hcS⟩:=(HZ.out.below hb3) (by omega);have cS:=hcS i hik;obtain⟨k2,ek,hk2n,hkk⟩:=HALL.out ks[i] (List.getElem_mem hik);have hk2n:k2<n:=by omega
   have hkz:(k2:Int)<(n:Int):=by omega
   have hiy:i<ys.length:=by rw[HY.out,List.length_map];exact hik
   have hyi0:ys[i]=if (ag l ks[i]).kd=2 then jg l 0 ks[i] else nQ l n ks[i]:=by simp[HY.out]
   have hsn:(ys.take (i+1)).flatten=(ys.take i).flatten++ys[i]:=by
    rw[List.take_succ_eq_append_getElem hiy,List.flatten_append];simp
   have hfl:=qY ys i hiy;rw[ek]at cS hyi0;have n0:=HN.out k2 hk2n wr hb3;have e0:=(hx.cell 0).trans rfl;have e1:=(hx.cell 1).trans rfl;have e2:=(hx.cell 2).trans rfl;have hle:t.length+(ys.take i).flatten.length+ys[i].length<=140737488355328:=by
    have:=HL.out;omega
   generalize ys[i]=y at *
   have HS:=hid hsn;have HY0:=hid hyi0;clear hsn hfl hyi0 hp hk hx hcS hiy ek;rcases hkk with hkk |hkk
   ·have HKK:=hid hkk;rw[hkk]at n0;have HYE:=hid (show y=jg l 0 k2 from HY0.out.trans (if_pos hkk));clear hkk;go_wp2_with (go_at_call 119;refine(HV.out k2 _ _ hk2n hb3 HP2.out (by rw[<- HYE.out,List.length_append];omega)).mono ?_);rintro e w3 ⟨rfl,hp4,hk4⟩;have HX4:=hid (Bx.kp HX2.out hk4 (by omega) (by decide));have HP4:=hid hp4;have HW4:=hid (HW2.out.trans hk4);clear hp4 hk4 e0 e1 e2 n0 cS;go_wp2
    go_roundg (m-(i+1))
    case measure=>go_light;omega
    case rel=>
     go_light
     exact⟨i+1,by go_num,by omega,rfl,by have:=HP4.out;rw[HS.out,HYE.out,<- List.append_assoc];exact this,HW4.out,HX4.out⟩
   ·have HKK:=hid hkk;rw[hkk]at n0;have HYE:=hid (show y=nQ l n k2 from HY0.out.trans (if_neg (by rw[hkk];decide)));clear hkk;go_wp2_with (go_at_call 120;refine(HPR.out k2 _ _ hk2n HKK.out hb3 HP2.out (by rw[<- HYE.out,List.length_append];omega)).mono ?_);rintro e w3 ⟨rfl,hp4,hk4⟩;have HX4:=hid (Bx.kp HX2.out hk4 (by omega) (by decide));have HP4:=hid hp4;have HW4:=hid (HW2.out.trans hk4);clear hp4 hk4 e0 e1 e2 n0 cS;go_wp2
    go_roundg (m-(i+1))
    case measure=>go_light;omega
    case rel=>
     go_light
     exact⟨i+1,by go_num,by omega,rfl,by have:=HP4.out;rw[HS.out,HYE.out,<- List.append_assoc];exact this,HW4.out,HX4.out⟩
  ·obtain rfl:i=m:=by omega
   have hlz:¬(i:Int)<(i:Int):=by omega
   have ht:ys.take i=ys:=List.take_of_length_le (by rw[HY.out,List.length_map];have:=HM.out;omega);rw[ht]at hp;have HP5:=hid hp;clear hp hk ht HP2 hx;go_wp2
   go_end0
   exact⟨rfl,HP5.out,HW2.out⟩
theorem yF {w0:World}{A:Option Addr}{l:List Tr.Nd}{n:Nat}(c b:Nat)(hx:nR w0 A l n)(p:Nat)(w:World)(hp:p<n)(hk:(ag l p).ks=[])(hb:Below w0.heap.size w0 w) :
  Calls Tryz.prog 61 #[PV A n c b 0,.int .i64 (p:Int)] w λe w'=>e=.returned (.tuple #[])/\Below w.heap.size w w':=by
 have hpl:p<l.length:=by rw[<- hx.len];exact hp
 obtain⟨bA,off,K,cK,rfl,hlt,c0,c1,c2,c3,c4,z5⟩:=aZ hx.nds hb p hpl;rw[<- aS hpl,hk]at c4;have hpz:(p:Int)<(n:Int):=by omega
 have c4:w.cell? ⟨bA,off+p*5+4,none⟩=some (.slice K 0 cK):=c4;have HW:=hid (aa w (.cells #[.slice (some ⟨bA,off,none⟩) n c,.func (.func 117) #[.pointer (some ⟨b,0,none⟩)] #[],.int .i64 0] 73));clear c0 c1 c2 c3 z5 hk hb hx hpl;unfold PV;go_enter Tryz.func61,Tryz.ntmps61
 go_wp2
 go_loopg [5,13] 0 (λg _ a13 wr=>a13=.int .i64 0/\g=0/\Below w.heap.size w wr)
 case atStart=>exact⟨rfl,rfl,HW.out⟩
 case round=>
  obtain⟨rfl,rfl,hw⟩:=hrel;have HW2:=hid hw;clear hw;go_wp2
  go_end0
  exact⟨rfl,HW2.out⟩
theorem yG (A:Option Addr)(n c:Nat)(r:Int)(p:Int)(y:List UInt8)(w w0:World)(hw0:w0=w.alloc (.cells #[.slice A n c,.int .i64 r] 25))(hy:y≠[])
  (hway:∀w',Below w0.heap.size w0 w'->Pg w0.heap.size w0.heap.size [] w'->Calls Tryz.prog 61 #[PV A n c w0.heap.size 0,.int .i64 p] w' (aK w0.heap.size w0.heap.size y (.tuple #[]) w')) :
  Calls Tryz.prog 60 #[.agg #[.slice A n c,.int .i64 r],.int .i64 p,.func (.func 61) #[] #[]] w λe w'=>e=.returned (.string (lZ y))/\Below w.heap.size w w':=by
 have hsz:w0.heap.size=w.heap.size+1:=by rw[hw0,World.size_alloc]
 have hX:=(Bx.new w 25 [.slice A n c,.int .i64 r]);have hXp:=hX.alloc (.cells #[.pointer none,.slice none 0 0] 118);have hP:=FD w0;have hbp:=aa w0 (.cells #[.pointer none,.slice none 0 0] 118);have HP0:=hid hP;have HC:=hid (hway _ hbp hP);have HB:=hid ((aa w (.cells #[.slice A n c,.int .i64 r] 25)));rw[hw0]at hbp;have HBP:=hid hbp;rw[hsz]at HC HP0;rw[hw0]at HC HP0;have e0:=(hXp.cell 0).trans rfl;have HS:=hid (λw' (q:Pg (w.heap.size+1) (w.heap.size+1) y w')=>wH (w.heap.size+1) (w.heap.size+1) y w' q hy);have HSZ:=hid hsz;unfold PV at HC;clear hway hw0 hX hXp hP hbp hy hsz;go_enter Tryz.func60,Tryz.ntmps60
 go_wp2_with (go_at_call 61;refine HC.out.mono ?_);rintro e w1 ⟨rfl,hp,hk⟩;have HC2:=hid (HS.out w1 hp);have HK:=hid hk;clear hp hk e0;go_wp2_with (go_at_call 118;refine HC2.out.mono ?_);rintro e w2 ⟨rfl,hp2,hk2⟩;have HK2:=hid hk2;clear hp2 hk2;go_wp2
 go_ret
 refine⟨rfl,bt HB.out ?_⟩;have h1:=HBP.out;have h2:=HK.out.1;have h3:=HK2.out.1;rw[show(w.alloc (.cells #[.slice A n c,.int .i64 r] 25)).heap.size=w.heap.size+1 from World.size_alloc _ _]at h1 |-;exact(h1.trans h2).trans h3
theorem vo (A:Option Addr)(n c:Nat)(r:Int)(p:Int)(w w0:World)(hw0:w0=w.alloc (.cells #[.slice A n c,.int .i64 r] 25))
  (hway:∀w',Below w0.heap.size w0 w'->Calls Tryz.prog 61 #[PV A n c w0.heap.size 0,.int .i64 p] w' λe w2=>e=.returned (.tuple #[])/\Below w'.heap.size w' w2) :
  Calls Tryz.prog 60 #[.agg #[.slice A n c,.int .i64 r],.int .i64 p,.func (.func 61) #[] #[]] w λe w'=>e=.returned (.string ⟨#[]⟩)/\Below w.heap.size w w':=by
 have hsz:w0.heap.size=w.heap.size+1:=by rw[hw0,World.size_alloc]
 have hX:=(Bx.new w 25 [.slice A n c,.int .i64 r]);have hXp:=hX.alloc (.cells #[.pointer none,.slice none 0 0] 118);have hbp:=aa w0 (.cells #[.pointer none,.slice none 0 0] 118);have HC:=hid (hway _ hbp);have HBK:=hid (show(w0.alloc (.cells #[.pointer none,.slice none 0 0] 118)).heap[w0.heap.size]?=some (.cells #[.pointer none,.slice none 0 0] 118 (0,0))from Bx.new w0 118 [.pointer none,.slice none 0 0]);rw[hw0]at hbp;have HBP:=hid hbp;rw[hsz]at HC HBK;rw[hw0]at HC HBK;have e0:=(hXp.cell 0).trans rfl;have HB:=hid ((aa w (.cells #[.slice A n c,.int .i64 r] 25)));have HSZ:=hid hsz;unfold PV at HC;clear hway hX hXp hbp;have HW0:=hid hw0;clear hw0 hsz;go_enter Tryz.func60,Tryz.ntmps60
 go_wp2_with (go_at_call 61;refine HC.out.mono ?_);rintro e w1 ⟨rfl,hk⟩;have hbk1:=(hk.block (w.heap.size+1) (by rw[World.size_alloc,World.size_alloc];omega)).trans HBK.out;have HK:=hid hk;have HC2:=hid (A9 (w.heap.size+1) w1 hbk1);clear hk hbk1 e0;go_wp2_with (go_at_call 118;refine HC2.out.mono ?_);rintro e w2 ⟨rfl,hk2⟩;have HK2:=hid hk2;clear hk2;go_wp2
 go_ret
 exact⟨rfl,bt HB.out (by have h1:=HBP.out;rw[show(w.alloc (.cells #[.slice A n c,.int .i64 r] 25)).heap.size=w.heap.size+1 from World.size_alloc _ _]at h1 |-;exact(h1.trans (HK.out.mono (by rw[World.size_alloc,World.size_alloc];omega))).trans (HK2.out.mono (by have:=HK.out.size;rw[World.size_alloc,World.size_alloc]at this;omega)))⟩
end
end Go.Proofs.YteecfjhjllajlaaGreatDoor
