/- PROVED: Eh. No more condition. -/
import Derived.Test.YteecfjhjllajlaaGreatDoorI44
namespace Go.Proofs.YteecfjhjllajlaaGreatDoor
section
set_option maxHeartbeats 4000000
set_option maxRecDepth 100000
open Go Go.RowKit Go.Sort
open Tr (Bx heap1 bt Nds Ints VPost BPost rgB)
theorem rChannels_any {w:World}{l:List Tr.Nd}{A:Option Addr}{n:Nat}(h:TT w A n l)(hn4:n≤400)(c:Nat)(r:Int):Calls Tryz.prog 52 #[.agg #[.slice A n c,.int .i64 r]] w (SsPost (chL (eff l r)) w):=by
 have hb0:=heap1 w (.cells #[.slice A n c,.int .i64 r] 25)
 have HX:=Lib.hid (Bx.new w 25 [.slice A n c,.int .i64 r])
 have HB0:=Lib.hid hb0
 have HT:=Lib.hid (h.below hb0)
 obtain⟨W0,hW0⟩:∃W0,w.alloc (.cells #[.slice A n c,.int .i64 r] 25)=W0:=⟨_,rfl⟩
 rw[hW0]at HX HB0 HT
 clear h hb0
 have HRG:=Lib.hid (Tr.rright_any A c n l r W0 HT.out.nds HT.out.len HT.out.kids HT.out.text)
 have a0:=(HX.out.cell 0).trans rfl
 have a1:=(HX.out.cell 1).trans rfl
 have HLN:=Lib.hid HT.out.len
 cases hr:rgB l r with
 |false=>
  rw[hr]at HRG
  rw[eff_no hr]
  have HV:=Lib.hid (show chL []=[]from List.eq_nil_of_length_eq_zero (by have h1:=chl_len [];have h2:(chn []).length=0:=rfl;omega))
  rw[HV.out]
  clear hr
  go_enter Tryz.func52,Tryz.ntmps52
  go_wp2_with (go_at_call 62;refine HRG.out.mono ?_)
  rintro e w1 ⟨rfl,hb1⟩
  have HE:=Lib.hid (bt HB0.out hb1)
  clear hb1 a0 a1
  go_wp2
  go_ret
  exact⟨none,0,rfl,λh0=>by simp at h0,HE.out⟩
 |true=>
  rw[hr]at HRG
  rw[eff_yes hr]
  clear hr
  go_enter Tryz.func52,Tryz.ntmps52
  go_wp2_with (go_at_call 62;refine HRG.out.mono ?_)
  rintro e w1 ⟨rfl,hb1⟩
  have HX1:=Lib.hid (HX.out.below hb1 HX.out.lt)
  have HT1:=Lib.hid (HT.out.below hb1)
  have HB1:=Lib.hid (bt HB0.out hb1)
  have hw1:w.heap.size≤w1.heap.size:=HB1.out.size
  clear hb1 a0 a1 HX HT HRG
  go_wp2
  go_loopw [4,5] (λv4 v5 wr=>∃(i:Nat) (os:List (List UInt8)),i≤n∧v5 = .int .i64 (i:Int)∧wr.ownsRow w1.heap.size 9 1 v4 os.length (encs os)∧os.Pairwise (· < ·)∧(∀x,x ∈ os↔x ∈ chn (l.take i))∧os.length≤i∧Below w1.heap.size w1 wr) (λ_ v5 _=>n-(intOf v5).toNat)
  case atStart=>exact⟨0,[],Nat.zero_le _,rfl,World.ownsRow_nil _ _ _ _,List.Pairwise.nil,λx=>by simp[chn],Nat.le_refl _,Below.refl _ _⟩
  case round=>
   obtain⟨i,os,hi,rfl,ho,hup,hmem,hlen,hb⟩:=hrel
   obtain⟨W2,rfl⟩:∃W2,W2=wr:=⟨_,rfl⟩
   obtain⟨Ao,co,rfl⟩:=own_slice ho
   have b0:=((HX1.out.below hb HX1.out.lt).cell 0).trans rfl
   by_cases hlt:i<n
   ·have hiz:(i:Int)<(n:Int):=by omega
    have hil:i<l.length:=by rw[← HLN.out];exact hlt
    obtain⟨bA,off,K,cK,e0,xt,x0,x1,x2,x3,x4,_⟩:=node_at (HT1.out.below hb).nds (Below.refl _ W2) i hil
    cases e0
    obtain⟨q,hq⟩:∃q,l[i]=q:=⟨_,rfl⟩
    rw[hq]at x0 x1 x2 x3 x4
    have HQ:=Lib.hid hq
    have HLT:=Lib.hid hlt
    have HI:=Lib.hid (And.intro ho (And.intro hup (And.intro hmem (And.intro hlen hb))))
    clear hq ho hup hmem hlen hb
    obtain⟨kd,nn,pl,tx,ks⟩:=q
    dsimp only at x0 x1 x2 x3 x4
    by_cases hk:kd=18
    ·subst hk
     have HST:=Lib.hid (show chn (l.take (i+1))=chn (l.take i)++[tx.data.toList]from by rw[chn_step hil,HQ.out];rfl)
     have hz3:=Bx.new W2 37 [.int .i64 18,.int .i64 nn,.int .i64 pl,.string tx,.slice K ks.length cK]
     have hb3:=heap1 W2 (.cells #[.int .i64 18,.int .i64 nn,.int .i64 pl,.string tx,.slice K ks.length cK] 37)
     have HS3:=Lib.hid (amongT_any (own_sts (own9_below HI.out.1 hb3)) (by have:=HI.out.2.2.2.1;omega) co tx)
     have HZ3:=Lib.hid hz3
     have HB3:=Lib.hid hb3
     clear hz3 hb3
     by_cases hin:tx.data.toList ∈ os
     ·rw[decide_eq_true hin]at HS3
      have HIN:=Lib.hid hin
      clear hin
      go_wp2_with (go_at_call 98;refine HS3.out.mono ?_)
      rintro e w4 ⟨rfl,hb4⟩
      have HE:=Lib.hid (bt HB3.out hb4)
      clear hb4 x0 x1 x2 x3 x4 b0
      go_wp2
      go_roundw
      case rel=>
       obtain⟨ho,hup,hmem,hlen,hb⟩:=HI.out
       refine⟨i+1,os,by have:=HLT.out;omega,by go_num,own9_below ho HE.out,hup,λx =>?_,by omega,hb.trans (HE.out.mono hb.size)⟩
       rw[HST.out,List.mem_append,← hmem x,List.mem_singleton]
       exact⟨Or.inl,λq=>q.elim id λe=>by rw[e];exact HIN.out⟩
      case measure=>have:=HLT.out;simp[intOf];omega
     ·rw[decide_eq_false hin]at HS3
      have HIN:=Lib.hid hin
      clear hin
      go_wp2_with (go_at_call 98;refine HS3.out.mono ?_)
      rintro e w4 ⟨rfl,hb4⟩
      have HZ4:=Lib.hid (HZ3.out.below hb4 HZ3.out.lt)
      have hb24:=bt HB3.out hb4
      have HB4:=Lib.hid hb24
      have HO4:=Lib.hid (own9_below HI.out.1 hb24)
      obtain⟨m,hm⟩:∃m,os.length=m:=⟨_,rfl⟩
      have hm4:m≤400:=by have:=HI.out.2.2.2.1;omega
      have HM:=Lib.hid hm
      rw[hm]
      clear hb4 hb24 x0 x1 x2 x3 x4 b0 HZ3 HS3
      go_wp2
      go_loopw [7] (λv7 wr=>∃k:Nat,k≤m∧v7 = .int .i64 (k:Int)∧(∀j (hj:j<os.length),j<k→os[j]<tx.data.toList)∧Below w4.heap.size w4 wr) (λv7 _=>m-(intOf v7).toNat)
      case atStart=>exact⟨0,Nat.zero_le _,rfl,λj _ h=>absurd h (Nat.not_lt_zero j),Below.refl _ _⟩
      case round=>
       obtain⟨k,hk,rfl,hlow,hb5⟩:=hrel
       obtain⟨W5,rfl⟩:∃W5,W5=wr:=⟨_,rfl⟩
       have HLOW:=Lib.hid hlow
       have HB5:=Lib.hid hb5
       have HKM:=Lib.hid hk
       clear hlow
       have s9:=cell_regrown (((HZ4.out.below hb5 HZ4.out.lt).cell 3).trans rfl)
       by_cases hkm:k<m
       ·have hkz:(k:Int)<(m:Int):=by omega
        have hkd:decide ((k:Int)<(m:Int))=true:=decide_eq_true hkz
        have hkl:k<os.length:=by rw[HM.out];exact hkm
        obtain⟨bS,oS,rfl,hbS,hcS⟩:=(own_sts HO4.out) (by omega)
        have cS:=(hb5.cell (p:=⟨bS,oS+k,none⟩) hbS).trans (hcS k hkl)
        obtain⟨X,hX⟩:∃X:ByteArray,Go.Proofs.encStr os[k] = .string X:=⟨_,rfl⟩
        rw[hX]at cS
        have hlss:=lss_str X tx
        rw[enc_lt hX tx rfl]at hlss
        have s8:=cell_regrown cS
        have HKL:=Lib.hid hkm
        clear hcS cS hX hb5 hbS hk
        by_cases hcmp:os[k]<tx.data.toList
        ·rw[decide_eq_true hcmp]at hlss
         have HCM:=Lib.hid hcmp
         clear hcmp
         go_upto_region 11 with(fail)
         refine wp_region_quiet_below (by kernel_rfl) (by kernel_rfl) ?_
         repeat (first|go_big_quiet_step (first|fail))
         refine wpQuiet_nil ?_
         intro _ hw'
         obtain⟨⟨dq,osq⟩,hw''⟩:=hw'
         subst hw''
         have hbq:=below_regrown W5 dq osq
         generalize grow (redrawn W5 dq) osq=W6 at *
         have HB6:=Lib.hid (bt HB5.out hbq)
         clear hbq s8 s9 hlss hkd
         go_wp2
         go_roundw
         case rel=>exact⟨k+1,by have:=HKL.out;omega,by go_num,λj hj hjk=>by
          by_cases e:j=k
          ·subst e;exact HCM.out
          ·exact HLOW.out j hj (by omega),HB6.out⟩
         case measure=>have:=HKL.out;simp[intOf];omega
        ·rw[decide_eq_false hcmp]at hlss
         have HHIGH:=Lib.hid (show∀hk:k<os.length,tx.data.toList<os[k]from λhk=>up_gt hcmp (λe=>HIN.out (by rw[← e];exact List.getElem_mem hk)))
         clear hcmp
         go_upto_region 11 with(fail)
         refine wp_region_quiet_below (by kernel_rfl) (by kernel_rfl) ?_
         repeat (first|go_big_quiet_step (first|fail))
         refine wpQuiet_nil ?_
         intro _ hw'
         obtain⟨⟨dq,osq⟩,hw''⟩:=hw'
         subst hw''
         have hbq:=below_regrown W5 dq osq
         generalize grow (redrawn W5 dq) osq=W6 at *
         have HB6:=Lib.hid (bt HB5.out hbq)
         clear hbq s8 s9 hlss hkd
         go_upto_region 13 with(fail)
         have HZ6:=Lib.hid (HZ4.out.below HB6.out HZ4.out.lt)
         have HO6:=Lib.hid (own9_below HO4.out HB6.out)
         refine wp_region_held (S:=λw'=>Below W6.heap.size W6 w') (by kernel_rfl) ?_
         have hS:Below W6.heap.size W6 ({ W6 with drawn:=W6.drawn+1 }:World):=Tr.bdrew (Below.refl _ _)
         have hkm2:=HKM.out
         have hco:m≤co:=by
          have h:=HO6.out
          rcases h.2 with⟨e1,e2⟩ |⟨g,cap,cur,e1,_,_,hnc,_⟩
          ·have:=HM.out;omega
          ·injection e1 with _ _ e3;have:=HM.out;omega
         have HSRC1:=Lib.hid (src_to HO6.out (k:=k) (by rw[HM.out];exact hkm2))
         have HSRC3:=Lib.hid (src_from HO6.out (k:=k) (by rw[HM.out];exact hkm2))
         rw[HM.out]at HSRC3
         have hbase:w1.heap.size≤W6.heap.size:=by have h1:=HI.out.2.2.2.2.size;have h2:=HB4.out.size;have h3:=HB6.out.size;omega
         generalize ({ W6 with drawn:=W6.drawn+1 }:World)=V0 at *
         refine hpu 1 (.slice (some ⟨bS,oS,none⟩:Option Addr) m co) (by kernel_rfl) rfl rfl (λ_ _ _ h=>h) rfl (y_move rfl rfl) hS ?_
         simp only[ap]
         refine hpu 2 (.int .i64 (k:Int)) (by kernel_rfl) rfl rfl (λ_ _ _ h=>h) rfl (y_move rfl rfl) hS ?_
         simp only[ap]
         refine hpu 3 (.slice (some ⟨bS,oS,none⟩:Option Addr) k co) (by kernel_rfl) rfl rfl (λ_ _ _ h=>h) rfl (y_to rfl rfl rfl (sl_to (some ⟨bS,oS,none⟩:Option Addr) m co k (by omega))) hS ?_
         simp only[ap]
         refine hpu 5 (.pointer (some ⟨W2.heap.size,3,none⟩)) (by kernel_rfl) rfl rfl (λ_ _ _ h=>h) rfl (y_field rfl rfl (run_field37_3 _)) hS ?_
         simp only[ap]
         refine hpu 6 (.string tx) (by kernel_rfl) rfl rfl (λ_ _ _ h=>h) rfl (y_load rfl rfl (λw' q=>run_load9 (((HZ6.out.below q HZ6.out.lt).cell 3).trans rfl))) hS ?_
         simp only[ap]
         refine hpu 9 (.slice (some ⟨bS,oS,none⟩:Option Addr) m co) (by kernel_rfl) rfl rfl (λ_ _ _ h=>h) rfl (y_move rfl rfl) hS ?_
         simp only[ap]
         refine hpu 10 (.int .i64 (k:Int)) (by kernel_rfl) rfl rfl (λ_ _ _ h=>h) rfl (y_move rfl rfl) hS ?_
         simp only[ap]
         refine hpu 11 (.slice (if co=k then (some ⟨bS,oS,none⟩:Option Addr) else Option.map (λx:Addr=>x.add k) (some ⟨bS,oS,none⟩:Option Addr)) (m-k) (co-k)) (by kernel_rfl) rfl rfl (λ_ _ _ h=>h) rfl (y_from rfl rfl rfl (sl_from (some ⟨bS,oS,none⟩:Option Addr) m co k hkm2)) hS ?_
         simp only[ap]
         have hz0:=hS.size
         refine h_two 0 7 ({ dst:=some 48,op:=Op.buildSlice 40 0 #[],type:=40,pos := "ref.go:308",after := #[],guard:=none }:Oper) ({ dst:=some 55,op:=Op.buildSlice 40 1 #[(0,Operand.tmp 54)],type:=40,pos := "ref.go:308",after := #[{ on:=6,ground:=Ground.data }],guard:=none }:Oper) rfl rfl (by kernel_rfl) rfl rfl ?_ ?_
         ·refine build0_wp rfl ⟨hS.alloc hz0 (.cells #[] 9),?_⟩
          simp only[ap]
          refine h_two 4 7 ({ dst:=some 52,op:=Op.call { callee:=Callee.builtin Builtin.append,args := #[Operand.tmp 48,Operand.tmp 51],argTypes := #[40,40] },type:=40,pos := "ref.go:308",after := #[{ on:=0,ground:=Ground.data },{ on:=3,ground:=Ground.data }],guard:=none }:Oper) ({ dst:=some 55,op:=Op.buildSlice 40 1 #[(0,Operand.tmp 54)],type:=40,pos := "ref.go:308",after := #[{ on:=6,ground:=Ground.data }],guard:=none }:Oper) rfl rfl (by kernel_rfl) rfl rfl ?_ ?_
          ·refine app_wp _ _ rfl w1.heap.size (.slice (some ⟨V0.heap.size,0,none⟩) 0 0) 0 [] rfl (World.ownsRow_made V0 #[] 0 (by omega) (by decide) rfl) (some ⟨bS,oS,none⟩:Option Addr) k co (encs (os.take k)) rfl (HSRC1.out.below (hS.alloc hz0 (.cells #[] 9))) (encs_one _) (by omega) (by have:=(hS.alloc hz0 (.cells #[] 9)).size;omega) ?_
           intro v1 wa own1 grow1 at1
           have hba:Below W6.heap.size W6 wa:=(hS.alloc hz0 (.cells #[] 9)).grown grow1 ((hS.alloc hz0 (.cells #[] 9)).size) (λq e=>by simp[Value.ownBlock]at e;subst e;omega)
           have hnew1:∀q,v1.ownBlock=some q→W6.heap.size≤q:=λq e=>by
            rcases at1 with z |z
            ·rw[z]at e;simp[Value.ownBlock]at e;subst e;omega
            ·rw[z]at e;injection e with e;have:=(hS.alloc hz0 (.cells #[] 9)).size;omega
           refine⟨hba,?_⟩
           simp only[ap]
           refine h_one 7 ({ dst:=some 55,op:=Op.buildSlice 40 1 #[(0,Operand.tmp 54)],type:=40,pos := "ref.go:308",after := #[{ on:=6,ground:=Ground.data }],guard:=none }:Oper) rfl (by kernel_rfl) rfl ?_
           refine build1t_wp rfl rfl ⟨hba.alloc hba.size _,?_⟩
           simp only[ap]
           refine h_one 8 ({ dst:=some 56,op:=Op.call { callee:=Callee.builtin Builtin.append,args := #[Operand.tmp 52,Operand.tmp 55],argTypes := #[40,40] },type:=40,pos := "ref.go:308",after := #[{ on:=4,ground:=Ground.data },{ on:=7,ground:=Ground.data },{ on:=4,ground:=Ground.chain }],guard:=none }:Oper) rfl (by kernel_rfl) rfl ?_
           refine app_wp _ _ rfl w1.heap.size v1 _ _ rfl (own1.alloc _) _ 1 1 [.string tx] rfl (⟨rfl,(λe=>by cases e),(λad e=>by injection e with e;subst e;exact⟨by simp,blk_cells wa [.string tx] 9⟩)⟩) (λu hu=>by rw[List.mem_singleton.1 hu];rfl) (by omega) (by have:=(hba.alloc hba.size (.cells #[.string tx] 9)).size;omega) ?_
           intro v2 wb own2 grow2 at2
           have hb2:Below W6.heap.size W6 wb:=(hba.alloc hba.size (.cells #[.string tx] 9)).grown grow2 ((hba.alloc hba.size (.cells #[.string tx] 9)).size) (λq e=>by have:=hnew1 q e;omega)
           have hnew2:∀q,v2.ownBlock=some q→W6.heap.size≤q:=λq e=>by
            rcases at2 with z |z
            ·exact hnew1 q (by rw[← z];exact e)
            ·rw[z]at e;injection e with e;have:=(hba.alloc hba.size (.cells #[.string tx] 9)).size;omega
           refine⟨hb2,?_⟩
           simp only[ap]
           refine h_one 12 ({ dst:=some 60,op:=Op.call { callee:=Callee.builtin Builtin.append,args := #[Operand.tmp 56,Operand.tmp 59],argTypes := #[40,40] },type:=40,pos := "ref.go:308",after := #[{ on:=8,ground:=Ground.data },{ on:=11,ground:=Ground.data },{ on:=8,ground:=Ground.chain }],guard:=none }:Oper) rfl (by kernel_rfl) rfl ?_
           refine app_wp _ _ rfl w1.heap.size v2 _ _ rfl own2 _ (m-k) (co-k) (encs (os.drop k)) rfl (HSRC3.out.below hb2) (encs_one _) (by omega) (by have:=hb2.size;omega) ?_
           intro v3 wc own3 grow3 at3
           have hb3:Below W6.heap.size W6 wc:=hb2.grown grow3 hb2.size (λq e=>by have:=hnew2 q e;omega)
           refine⟨hb3,?_⟩
           simp only[ap]
           refine h_one 13 ({ dst:=some 4,op:=Op.assign (Operand.tmp 60),type:=40,pos := "ref.go:308",after := #[{ on:=12,ground:=Ground.data },{ on:=12,ground:=Ground.chain },{ on:=0,ground:=Ground.phase },{ on:=1,ground:=Ground.phase },{ on:=2,ground:=Ground.phase },{ on:=3,ground:=Ground.phase },{ on:=4,ground:=Ground.phase },{ on:=5,ground:=Ground.phase },{ on:=6,ground:=Ground.phase },{ on:=7,ground:=Ground.phase },{ on:=8,ground:=Ground.phase },{ on:=9,ground:=Ground.phase },{ on:=10,ground:=Ground.phase },{ on:=11,ground:=Ground.phase },{ on:=12,ground:=Ground.phase }],guard:=none }:Oper) rfl (by kernel_rfl) rfl ?_
           refine assign_wp rfl rfl ⟨hb3,?_⟩
           simp only[ap]
           refine wpAnyH_done (by kernel_rfl) ?_ _
           have hlenI:(insT os k tx.data.toList).length=0+k+1+(m-k):=by rw[ins_len (by rw[HM.out];exact hkm2),HM.out];omega
           have hencI:encs (insT os k tx.data.toList)=([]++encs (os.take k))++[.string tx]++encs (os.drop k):=by unfold insT encs;rw[List.map_append,List.map_append];rw[show List.map Go.Proofs.encStr [tx.data.toList]=[.string tx]by rw[List.map_cons,enc_mk,List.map_nil]];rfl
           have HFIN:=Lib.hid (show PutR w1.heap.size (insT os k tx.data.toList) W6 v3 wc from⟨by rw[hlenI,hencI];exact own3,hb3⟩)
           clear own2 own3 grow2 grow3 at2 at3 hb2 hb3 hnew2 hlenI hencI hnew1 own1 hS hz0
           obtain⟨Aw,cw,rfl⟩:=own_slice HFIN.out.1
           have HF:=HFIN
           go_wp2
           go_roundw
           case rel=>
            obtain⟨ho,hup,hmem,hlen,hb⟩:=HI.out
            refine⟨i+1,insT os k tx.data.toList,by have:=HLT.out;omega,by go_num,HF.out.1,ins_up hup HLOW.out HHIGH.out,λx =>?_,by rw[ins_len (by rw[HM.out];exact HKM.out)];omega,hb.trans ((bt HB4.out (bt HB6.out HF.out.2)).mono hb.size)⟩
            rw[ins_mem,HST.out,List.mem_append,← hmem x,List.mem_singleton]
           case measure=>have:=HLT.out;simp[intOf];omega
          ·refine build1t_wp rfl rfl ⟨(hS.alloc hz0 (.cells #[] 9)).alloc ((hS.alloc hz0 (.cells #[] 9)).size) (.cells #[.string tx] 9),?_⟩
           simp only[ap]
           refine h_one 4 ({ dst:=some 52,op:=Op.call { callee:=Callee.builtin Builtin.append,args := #[Operand.tmp 48,Operand.tmp 51],argTypes := #[40,40] },type:=40,pos := "ref.go:308",after := #[{ on:=0,ground:=Ground.data },{ on:=3,ground:=Ground.data }],guard:=none }:Oper) rfl (by kernel_rfl) rfl ?_
           refine app_wp _ _ rfl w1.heap.size (.slice (some ⟨V0.heap.size,0,none⟩) 0 0) 0 [] rfl ((World.ownsRow_made V0 #[] 0 (by omega) (by decide) rfl).alloc _) (some ⟨bS,oS,none⟩:Option Addr) k co (encs (os.take k)) rfl (HSRC1.out.below ((hS.alloc hz0 (.cells #[] 9)).alloc ((hS.alloc hz0 (.cells #[] 9)).size) (.cells #[.string tx] 9))) (encs_one _) (by omega) (by have:=((hS.alloc hz0 (.cells #[] 9)).alloc ((hS.alloc hz0 (.cells #[] 9)).size) (.cells #[.string tx] 9)).size;omega) ?_
           intro v1 wa own1 grow1 at1
           have hba:Below W6.heap.size W6 wa:=((hS.alloc hz0 (.cells #[] 9)).alloc ((hS.alloc hz0 (.cells #[] 9)).size) (.cells #[.string tx] 9)).grown grow1 (((hS.alloc hz0 (.cells #[] 9)).alloc ((hS.alloc hz0 (.cells #[] 9)).size) (.cells #[.string tx] 9)).size) (λq e=>by simp[Value.ownBlock]at e;subst e;omega)
           have hnew1:∀q,v1.ownBlock=some q→W6.heap.size≤q:=λq e=>by
            rcases at1 with z |z
            ·rw[z]at e;simp[Value.ownBlock]at e;subst e;omega
            ·rw[z]at e;injection e with e;have:=((hS.alloc hz0 (.cells #[] 9)).alloc ((hS.alloc hz0 (.cells #[] 9)).size) (.cells #[.string tx] 9)).size;omega
           refine⟨hba,?_⟩
           simp only[ap]
           refine h_one 8 ({ dst:=some 56,op:=Op.call { callee:=Callee.builtin Builtin.append,args := #[Operand.tmp 52,Operand.tmp 55],argTypes := #[40,40] },type:=40,pos := "ref.go:308",after := #[{ on:=4,ground:=Ground.data },{ on:=7,ground:=Ground.data },{ on:=4,ground:=Ground.chain }],guard:=none }:Oper) rfl (by kernel_rfl) rfl ?_
           refine app_wp _ _ rfl w1.heap.size v1 _ _ rfl (own1) _ 1 1 [.string tx] rfl (⟨rfl,(λe=>by cases e),(λad e=>by injection e with e;subst e;exact⟨Nat.lt_of_lt_of_le (by simp) grow1.size,λj u hu=>(World.cell?_of_block (grow1.block _ (by rw[blk_add];simp) (by rw[blk_add];simp[Value.ownBlock]))).trans (blk_cells (V0.alloc (.cells #[] 9)) [.string tx] 9 j u hu)⟩)⟩) (λu hu=>by rw[List.mem_singleton.1 hu];rfl) (by omega) (by have:=(hba).size;omega) ?_
           intro v2 wb own2 grow2 at2
           have hb2:Below W6.heap.size W6 wb:=(hba).grown grow2 ((hba).size) (λq e=>by have:=hnew1 q e;omega)
           have hnew2:∀q,v2.ownBlock=some q→W6.heap.size≤q:=λq e=>by
            rcases at2 with z |z
            ·exact hnew1 q (by rw[← z];exact e)
            ·rw[z]at e;injection e with e;have:=(hba).size;omega
           refine⟨hb2,?_⟩
           simp only[ap]
           refine h_one 12 ({ dst:=some 60,op:=Op.call { callee:=Callee.builtin Builtin.append,args := #[Operand.tmp 56,Operand.tmp 59],argTypes := #[40,40] },type:=40,pos := "ref.go:308",after := #[{ on:=8,ground:=Ground.data },{ on:=11,ground:=Ground.data },{ on:=8,ground:=Ground.chain }],guard:=none }:Oper) rfl (by kernel_rfl) rfl ?_
           refine app_wp _ _ rfl w1.heap.size v2 _ _ rfl own2 _ (m-k) (co-k) (encs (os.drop k)) rfl (HSRC3.out.below hb2) (encs_one _) (by omega) (by have:=hb2.size;omega) ?_
           intro v3 wc own3 grow3 at3
           have hb3:Below W6.heap.size W6 wc:=hb2.grown grow3 hb2.size (λq e=>by have:=hnew2 q e;omega)
           refine⟨hb3,?_⟩
           simp only[ap]
           refine h_one 13 ({ dst:=some 4,op:=Op.assign (Operand.tmp 60),type:=40,pos := "ref.go:308",after := #[{ on:=12,ground:=Ground.data },{ on:=12,ground:=Ground.chain },{ on:=0,ground:=Ground.phase },{ on:=1,ground:=Ground.phase },{ on:=2,ground:=Ground.phase },{ on:=3,ground:=Ground.phase },{ on:=4,ground:=Ground.phase },{ on:=5,ground:=Ground.phase },{ on:=6,ground:=Ground.phase },{ on:=7,ground:=Ground.phase },{ on:=8,ground:=Ground.phase },{ on:=9,ground:=Ground.phase },{ on:=10,ground:=Ground.phase },{ on:=11,ground:=Ground.phase },{ on:=12,ground:=Ground.phase }],guard:=none }:Oper) rfl (by kernel_rfl) rfl ?_
           refine assign_wp rfl rfl ⟨hb3,?_⟩
           simp only[ap]
           refine wpAnyH_done (by kernel_rfl) ?_ _
           have hlenI:(insT os k tx.data.toList).length=0+k+1+(m-k):=by rw[ins_len (by rw[HM.out];exact hkm2),HM.out];omega
           have hencI:encs (insT os k tx.data.toList)=([]++encs (os.take k))++[.string tx]++encs (os.drop k):=by unfold insT encs;rw[List.map_append,List.map_append];rw[show List.map Go.Proofs.encStr [tx.data.toList]=[.string tx]by rw[List.map_cons,enc_mk,List.map_nil]];rfl
           have HFIN:=Lib.hid (show PutR w1.heap.size (insT os k tx.data.toList) W6 v3 wc from⟨by rw[hlenI,hencI];exact own3,hb3⟩)
           clear own2 own3 grow2 grow3 at2 at3 hb2 hb3 hnew2 hlenI hencI hnew1 own1 hS hz0
           obtain⟨Aw,cw,rfl⟩:=own_slice HFIN.out.1
           have HF:=HFIN
           go_wp2
           go_roundw
           case rel=>
            obtain⟨ho,hup,hmem,hlen,hb⟩:=HI.out
            refine⟨i+1,insT os k tx.data.toList,by have:=HLT.out;omega,by go_num,HF.out.1,ins_up hup HLOW.out HHIGH.out,λx =>?_,by rw[ins_len (by rw[HM.out];exact HKM.out)];omega,hb.trans ((bt HB4.out (bt HB6.out HF.out.2)).mono hb.size)⟩
            rw[ins_mem,HST.out,List.mem_append,← hmem x,List.mem_singleton]
           case measure=>have:=HLT.out;simp[intOf];omega
         ·refine build1t_wp rfl rfl ⟨hS.alloc hz0 (.cells #[.string tx] 9),?_⟩
          simp only[ap]
          refine h_one 0 ({ dst:=some 48,op:=Op.buildSlice 40 0 #[],type:=40,pos := "ref.go:308",after := #[],guard:=none }:Oper) rfl (by kernel_rfl) rfl ?_
          refine build0_wp rfl ⟨(hS.alloc hz0 (.cells #[.string tx] 9)).alloc ((hS.alloc hz0 (.cells #[.string tx] 9)).size) (.cells #[] 9),?_⟩
          simp only[ap]
          refine h_one 4 ({ dst:=some 52,op:=Op.call { callee:=Callee.builtin Builtin.append,args := #[Operand.tmp 48,Operand.tmp 51],argTypes := #[40,40] },type:=40,pos := "ref.go:308",after := #[{ on:=0,ground:=Ground.data },{ on:=3,ground:=Ground.data }],guard:=none }:Oper) rfl (by kernel_rfl) rfl ?_
          refine app_wp _ _ rfl w1.heap.size (.slice (some ⟨(V0.alloc (.cells #[.string tx] 9)).heap.size,0,none⟩) 0 0) 0 [] rfl (World.ownsRow_made (V0.alloc (.cells #[.string tx] 9)) #[] 0 (by simp;omega) (by decide) rfl) (some ⟨bS,oS,none⟩:Option Addr) k co (encs (os.take k)) rfl (HSRC1.out.below ((hS.alloc hz0 (.cells #[.string tx] 9)).alloc ((hS.alloc hz0 (.cells #[.string tx] 9)).size) (.cells #[] 9))) (encs_one _) (by omega) (by have:=((hS.alloc hz0 (.cells #[.string tx] 9)).alloc ((hS.alloc hz0 (.cells #[.string tx] 9)).size) (.cells #[] 9)).size;omega) ?_
          intro v1 wa own1 grow1 at1
          have hba:Below W6.heap.size W6 wa:=((hS.alloc hz0 (.cells #[.string tx] 9)).alloc ((hS.alloc hz0 (.cells #[.string tx] 9)).size) (.cells #[] 9)).grown grow1 (((hS.alloc hz0 (.cells #[.string tx] 9)).alloc ((hS.alloc hz0 (.cells #[.string tx] 9)).size) (.cells #[] 9)).size) (λq e=>by simp[Value.ownBlock]at e;omega)
          have hnew1:∀q,v1.ownBlock=some q→W6.heap.size≤q:=λq e=>by
           rcases at1 with z |z
           ·rw[z]at e;simp[Value.ownBlock]at e;omega
           ·rw[z]at e;injection e with e;have:=((hS.alloc hz0 (.cells #[.string tx] 9)).alloc ((hS.alloc hz0 (.cells #[.string tx] 9)).size) (.cells #[] 9)).size;omega
          refine⟨hba,?_⟩
          simp only[ap]
          refine h_one 8 ({ dst:=some 56,op:=Op.call { callee:=Callee.builtin Builtin.append,args := #[Operand.tmp 52,Operand.tmp 55],argTypes := #[40,40] },type:=40,pos := "ref.go:308",after := #[{ on:=4,ground:=Ground.data },{ on:=7,ground:=Ground.data },{ on:=4,ground:=Ground.chain }],guard:=none }:Oper) rfl (by kernel_rfl) rfl ?_
          refine app_wp _ _ rfl w1.heap.size v1 _ _ rfl (own1) _ 1 1 [.string tx] rfl (⟨rfl,(λe=>by cases e),(λad e=>by injection e with e;subst e;exact⟨Nat.lt_of_lt_of_le (by simp;omega) grow1.size,λj u hu=>(World.cell?_of_block (grow1.block _ (by rw[blk_add];simp;omega) (by rw[blk_add];simp[Value.ownBlock]))).trans (((heap1 (V0.alloc (.cells #[.string tx] 9)) (.cells #[] 9)).cell (by rw[blk_add];simp)).trans (blk_cells V0 [.string tx] 9 j u hu))⟩)⟩) (λu hu=>by rw[List.mem_singleton.1 hu];rfl) (by omega) (by have:=(hba).size;omega) ?_
          intro v2 wb own2 grow2 at2
          have hb2:Below W6.heap.size W6 wb:=(hba).grown grow2 ((hba).size) (λq e=>by have:=hnew1 q e;omega)
          have hnew2:∀q,v2.ownBlock=some q→W6.heap.size≤q:=λq e=>by
           rcases at2 with z |z
           ·exact hnew1 q (by rw[← z];exact e)
           ·rw[z]at e;injection e with e;have:=(hba).size;omega
          refine⟨hb2,?_⟩
          simp only[ap]
          refine h_one 12 ({ dst:=some 60,op:=Op.call { callee:=Callee.builtin Builtin.append,args := #[Operand.tmp 56,Operand.tmp 59],argTypes := #[40,40] },type:=40,pos := "ref.go:308",after := #[{ on:=8,ground:=Ground.data },{ on:=11,ground:=Ground.data },{ on:=8,ground:=Ground.chain }],guard:=none }:Oper) rfl (by kernel_rfl) rfl ?_
          refine app_wp _ _ rfl w1.heap.size v2 _ _ rfl own2 _ (m-k) (co-k) (encs (os.drop k)) rfl (HSRC3.out.below hb2) (encs_one _) (by omega) (by have:=hb2.size;omega) ?_
          intro v3 wc own3 grow3 at3
          have hb3:Below W6.heap.size W6 wc:=hb2.grown grow3 hb2.size (λq e=>by have:=hnew2 q e;omega)
          refine⟨hb3,?_⟩
          simp only[ap]
          refine h_one 13 ({ dst:=some 4,op:=Op.assign (Operand.tmp 60),type:=40,pos := "ref.go:308",after := #[{ on:=12,ground:=Ground.data },{ on:=12,ground:=Ground.chain },{ on:=0,ground:=Ground.phase },{ on:=1,ground:=Ground.phase },{ on:=2,ground:=Ground.phase },{ on:=3,ground:=Ground.phase },{ on:=4,ground:=Ground.phase },{ on:=5,ground:=Ground.phase },{ on:=6,ground:=Ground.phase },{ on:=7,ground:=Ground.phase },{ on:=8,ground:=Ground.phase },{ on:=9,ground:=Ground.phase },{ on:=10,ground:=Ground.phase },{ on:=11,ground:=Ground.phase },{ on:=12,ground:=Ground.phase }],guard:=none }:Oper) rfl (by kernel_rfl) rfl ?_
          refine assign_wp rfl rfl ⟨hb3,?_⟩
          simp only[ap]
          refine wpAnyH_done (by kernel_rfl) ?_ _
          have hlenI:(insT os k tx.data.toList).length=0+k+1+(m-k):=by rw[ins_len (by rw[HM.out];exact hkm2),HM.out];omega
          have hencI:encs (insT os k tx.data.toList)=([]++encs (os.take k))++[.string tx]++encs (os.drop k):=by unfold insT encs;rw[List.map_append,List.map_append];rw[show List.map Go.Proofs.encStr [tx.data.toList]=[.string tx]by rw[List.map_cons,enc_mk,List.map_nil]];rfl
          have HFIN:=Lib.hid (show PutR w1.heap.size (insT os k tx.data.toList) W6 v3 wc from⟨by rw[hlenI,hencI];exact own3,hb3⟩)
          clear own2 own3 grow2 grow3 at2 at3 hb2 hb3 hnew2 hlenI hencI hnew1 own1 hS hz0
          obtain⟨Aw,cw,rfl⟩:=own_slice HFIN.out.1
          have HF:=HFIN
          go_wp2
          go_roundw
          case rel=>
           obtain⟨ho,hup,hmem,hlen,hb⟩:=HI.out
           refine⟨i+1,insT os k tx.data.toList,by have:=HLT.out;omega,by go_num,HF.out.1,ins_up hup HLOW.out HHIGH.out,λx =>?_,by rw[ins_len (by rw[HM.out];exact HKM.out)];omega,hb.trans ((bt HB4.out (bt HB6.out HF.out.2)).mono hb.size)⟩
           rw[ins_mem,HST.out,List.mem_append,← hmem x,List.mem_singleton]
          case measure=>have:=HLT.out;simp[intOf];omega
       ·have hkz:¬(k:Int)<(m:Int):=by omega
        have hkd:decide ((k:Int)<(m:Int))=false:=decide_eq_false hkz
        have HHIGH:=Lib.hid (show∀hk:k<os.length,tx.data.toList<os[k]from λhk=>absurd hk (by have:=HM.out;omega))
        clear hb5 hk
        go_upto_region 11 with(fail)
        refine wp_region_quiet_below (by kernel_rfl) (by kernel_rfl) ?_
        repeat (first|go_big_quiet_step (first|fail))
        refine wpQuiet_nil ?_
        intro _ hw'
        obtain⟨⟨dq,osq⟩,hw''⟩:=hw'
        subst hw''
        have hbq:=below_regrown W5 dq osq
        generalize grow (redrawn W5 dq) osq=W6 at *
        have HB6:=Lib.hid (bt HB5.out hbq)
        clear hbq s9 hkd
        go_upto_region 13 with(fail)
        have HZ6:=Lib.hid (HZ4.out.below HB6.out HZ4.out.lt)
        have HO6:=Lib.hid (own9_below HO4.out HB6.out)
        refine wp_region_held (S:=λw'=>Below W6.heap.size W6 w') (by kernel_rfl) ?_
        have hS:Below W6.heap.size W6 ({ W6 with drawn:=W6.drawn+1 }:World):=Tr.bdrew (Below.refl _ _)
        have hkm2:=HKM.out
        have hco:m≤co:=by
         have h:=HO6.out
         rcases h.2 with⟨e1,e2⟩ |⟨g,cap,cur,e1,_,_,hnc,_⟩
         ·have:=HM.out;omega
         ·injection e1 with _ _ e3;have:=HM.out;omega
        have HSRC1:=Lib.hid (src_to HO6.out (k:=k) (by rw[HM.out];exact hkm2))
        have HSRC3:=Lib.hid (src_from HO6.out (k:=k) (by rw[HM.out];exact hkm2))
        rw[HM.out]at HSRC3
        have hbase:w1.heap.size≤W6.heap.size:=by have h1:=HI.out.2.2.2.2.size;have h2:=HB4.out.size;have h3:=HB6.out.size;omega
        generalize ({ W6 with drawn:=W6.drawn+1 }:World)=V0 at *
        refine hpu 1 (.slice Ao m co) (by kernel_rfl) rfl rfl (λ_ _ _ h=>h) rfl (y_move rfl rfl) hS ?_
        simp only[ap]
        refine hpu 2 (.int .i64 (k:Int)) (by kernel_rfl) rfl rfl (λ_ _ _ h=>h) rfl (y_move rfl rfl) hS ?_
        simp only[ap]
        refine hpu 3 (.slice Ao k co) (by kernel_rfl) rfl rfl (λ_ _ _ h=>h) rfl (y_to rfl rfl rfl (sl_to Ao m co k (by omega))) hS ?_
        simp only[ap]
        refine hpu 5 (.pointer (some ⟨W2.heap.size,3,none⟩)) (by kernel_rfl) rfl rfl (λ_ _ _ h=>h) rfl (y_field rfl rfl (run_field37_3 _)) hS ?_
        simp only[ap]
        refine hpu 6 (.string tx) (by kernel_rfl) rfl rfl (λ_ _ _ h=>h) rfl (y_load rfl rfl (λw' q=>run_load9 (((HZ6.out.below q HZ6.out.lt).cell 3).trans rfl))) hS ?_
        simp only[ap]
        refine hpu 9 (.slice Ao m co) (by kernel_rfl) rfl rfl (λ_ _ _ h=>h) rfl (y_move rfl rfl) hS ?_
        simp only[ap]
        refine hpu 10 (.int .i64 (k:Int)) (by kernel_rfl) rfl rfl (λ_ _ _ h=>h) rfl (y_move rfl rfl) hS ?_
        simp only[ap]
        refine hpu 11 (.slice (if co=k then Ao else Option.map (λx:Addr=>x.add k) Ao) (m-k) (co-k)) (by kernel_rfl) rfl rfl (λ_ _ _ h=>h) rfl (y_from rfl rfl rfl (sl_from Ao m co k hkm2)) hS ?_
        simp only[ap]
        have hz0:=hS.size
        refine h_two 0 7 ({ dst:=some 48,op:=Op.buildSlice 40 0 #[],type:=40,pos := "ref.go:308",after := #[],guard:=none }:Oper) ({ dst:=some 55,op:=Op.buildSlice 40 1 #[(0,Operand.tmp 54)],type:=40,pos := "ref.go:308",after := #[{ on:=6,ground:=Ground.data }],guard:=none }:Oper) rfl rfl (by kernel_rfl) rfl rfl ?_ ?_
        ·refine build0_wp rfl ⟨hS.alloc hz0 (.cells #[] 9),?_⟩
         simp only[ap]
         refine h_two 4 7 ({ dst:=some 52,op:=Op.call { callee:=Callee.builtin Builtin.append,args := #[Operand.tmp 48,Operand.tmp 51],argTypes := #[40,40] },type:=40,pos := "ref.go:308",after := #[{ on:=0,ground:=Ground.data },{ on:=3,ground:=Ground.data }],guard:=none }:Oper) ({ dst:=some 55,op:=Op.buildSlice 40 1 #[(0,Operand.tmp 54)],type:=40,pos := "ref.go:308",after := #[{ on:=6,ground:=Ground.data }],guard:=none }:Oper) rfl rfl (by kernel_rfl) rfl rfl ?_ ?_
         ·refine app_wp _ _ rfl w1.heap.size (.slice (some ⟨V0.heap.size,0,none⟩) 0 0) 0 [] rfl (World.ownsRow_made V0 #[] 0 (by omega) (by decide) rfl) Ao k co (encs (os.take k)) rfl (HSRC1.out.below (hS.alloc hz0 (.cells #[] 9))) (encs_one _) (by omega) (by have:=(hS.alloc hz0 (.cells #[] 9)).size;omega) ?_
          intro v1 wa own1 grow1 at1
          have hba:Below W6.heap.size W6 wa:=(hS.alloc hz0 (.cells #[] 9)).grown grow1 ((hS.alloc hz0 (.cells #[] 9)).size) (λq e=>by simp[Value.ownBlock]at e;subst e;omega)
          have hnew1:∀q,v1.ownBlock=some q→W6.heap.size≤q:=λq e=>by
           rcases at1 with z |z
           ·rw[z]at e;simp[Value.ownBlock]at e;subst e;omega
           ·rw[z]at e;injection e with e;have:=(hS.alloc hz0 (.cells #[] 9)).size;omega
          refine⟨hba,?_⟩
          simp only[ap]
          refine h_one 7 ({ dst:=some 55,op:=Op.buildSlice 40 1 #[(0,Operand.tmp 54)],type:=40,pos := "ref.go:308",after := #[{ on:=6,ground:=Ground.data }],guard:=none }:Oper) rfl (by kernel_rfl) rfl ?_
          refine build1t_wp rfl rfl ⟨hba.alloc hba.size _,?_⟩
          simp only[ap]
          refine h_one 8 ({ dst:=some 56,op:=Op.call { callee:=Callee.builtin Builtin.append,args := #[Operand.tmp 52,Operand.tmp 55],argTypes := #[40,40] },type:=40,pos := "ref.go:308",after := #[{ on:=4,ground:=Ground.data },{ on:=7,ground:=Ground.data },{ on:=4,ground:=Ground.chain }],guard:=none }:Oper) rfl (by kernel_rfl) rfl ?_
          refine app_wp _ _ rfl w1.heap.size v1 _ _ rfl (own1.alloc _) _ 1 1 [.string tx] rfl (⟨rfl,(λe=>by cases e),(λad e=>by injection e with e;subst e;exact⟨by simp,blk_cells wa [.string tx] 9⟩)⟩) (λu hu=>by rw[List.mem_singleton.1 hu];rfl) (by omega) (by have:=(hba.alloc hba.size (.cells #[.string tx] 9)).size;omega) ?_
          intro v2 wb own2 grow2 at2
          have hb2:Below W6.heap.size W6 wb:=(hba.alloc hba.size (.cells #[.string tx] 9)).grown grow2 ((hba.alloc hba.size (.cells #[.string tx] 9)).size) (λq e=>by have:=hnew1 q e;omega)
          have hnew2:∀q,v2.ownBlock=some q→W6.heap.size≤q:=λq e=>by
           rcases at2 with z |z
           ·exact hnew1 q (by rw[← z];exact e)
           ·rw[z]at e;injection e with e;have:=(hba.alloc hba.size (.cells #[.string tx] 9)).size;omega
          refine⟨hb2,?_⟩
          simp only[ap]
          refine h_one 12 ({ dst:=some 60,op:=Op.call { callee:=Callee.builtin Builtin.append,args := #[Operand.tmp 56,Operand.tmp 59],argTypes := #[40,40] },type:=40,pos := "ref.go:308",after := #[{ on:=8,ground:=Ground.data },{ on:=11,ground:=Ground.data },{ on:=8,ground:=Ground.chain }],guard:=none }:Oper) rfl (by kernel_rfl) rfl ?_
          refine app_wp _ _ rfl w1.heap.size v2 _ _ rfl own2 _ (m-k) (co-k) (encs (os.drop k)) rfl (HSRC3.out.below hb2) (encs_one _) (by omega) (by have:=hb2.size;omega) ?_
          intro v3 wc own3 grow3 at3
          have hb3:Below W6.heap.size W6 wc:=hb2.grown grow3 hb2.size (λq e=>by have:=hnew2 q e;omega)
          refine⟨hb3,?_⟩
          simp only[ap]
          refine h_one 13 ({ dst:=some 4,op:=Op.assign (Operand.tmp 60),type:=40,pos := "ref.go:308",after := #[{ on:=12,ground:=Ground.data },{ on:=12,ground:=Ground.chain },{ on:=0,ground:=Ground.phase },{ on:=1,ground:=Ground.phase },{ on:=2,ground:=Ground.phase },{ on:=3,ground:=Ground.phase },{ on:=4,ground:=Ground.phase },{ on:=5,ground:=Ground.phase },{ on:=6,ground:=Ground.phase },{ on:=7,ground:=Ground.phase },{ on:=8,ground:=Ground.phase },{ on:=9,ground:=Ground.phase },{ on:=10,ground:=Ground.phase },{ on:=11,ground:=Ground.phase },{ on:=12,ground:=Ground.phase }],guard:=none }:Oper) rfl (by kernel_rfl) rfl ?_
          refine assign_wp rfl rfl ⟨hb3,?_⟩
          simp only[ap]
          refine wpAnyH_done (by kernel_rfl) ?_ _
          have hlenI:(insT os k tx.data.toList).length=0+k+1+(m-k):=by rw[ins_len (by rw[HM.out];exact hkm2),HM.out];omega
          have hencI:encs (insT os k tx.data.toList)=([]++encs (os.take k))++[.string tx]++encs (os.drop k):=by unfold insT encs;rw[List.map_append,List.map_append];rw[show List.map Go.Proofs.encStr [tx.data.toList]=[.string tx]by rw[List.map_cons,enc_mk,List.map_nil]];rfl
          have HFIN:=Lib.hid (show PutR w1.heap.size (insT os k tx.data.toList) W6 v3 wc from⟨by rw[hlenI,hencI];exact own3,hb3⟩)
          clear own2 own3 grow2 grow3 at2 at3 hb2 hb3 hnew2 hlenI hencI hnew1 own1 hS hz0
          obtain⟨Aw,cw,rfl⟩:=own_slice HFIN.out.1
          have HF:=HFIN
          go_wp2
          go_roundw
          case rel=>
           obtain⟨ho,hup,hmem,hlen,hb⟩:=HI.out
           refine⟨i+1,insT os k tx.data.toList,by have:=HLT.out;omega,by go_num,HF.out.1,ins_up hup HLOW.out HHIGH.out,λx =>?_,by rw[ins_len (by rw[HM.out];exact HKM.out)];omega,hb.trans ((bt HB4.out (bt HB6.out HF.out.2)).mono hb.size)⟩
           rw[ins_mem,HST.out,List.mem_append,← hmem x,List.mem_singleton]
          case measure=>have:=HLT.out;simp[intOf];omega
         ·refine build1t_wp rfl rfl ⟨(hS.alloc hz0 (.cells #[] 9)).alloc ((hS.alloc hz0 (.cells #[] 9)).size) (.cells #[.string tx] 9),?_⟩
          simp only[ap]
          refine h_one 4 ({ dst:=some 52,op:=Op.call { callee:=Callee.builtin Builtin.append,args := #[Operand.tmp 48,Operand.tmp 51],argTypes := #[40,40] },type:=40,pos := "ref.go:308",after := #[{ on:=0,ground:=Ground.data },{ on:=3,ground:=Ground.data }],guard:=none }:Oper) rfl (by kernel_rfl) rfl ?_
          refine app_wp _ _ rfl w1.heap.size (.slice (some ⟨V0.heap.size,0,none⟩) 0 0) 0 [] rfl ((World.ownsRow_made V0 #[] 0 (by omega) (by decide) rfl).alloc _) Ao k co (encs (os.take k)) rfl (HSRC1.out.below ((hS.alloc hz0 (.cells #[] 9)).alloc ((hS.alloc hz0 (.cells #[] 9)).size) (.cells #[.string tx] 9))) (encs_one _) (by omega) (by have:=((hS.alloc hz0 (.cells #[] 9)).alloc ((hS.alloc hz0 (.cells #[] 9)).size) (.cells #[.string tx] 9)).size;omega) ?_
          intro v1 wa own1 grow1 at1
          have hba:Below W6.heap.size W6 wa:=((hS.alloc hz0 (.cells #[] 9)).alloc ((hS.alloc hz0 (.cells #[] 9)).size) (.cells #[.string tx] 9)).grown grow1 (((hS.alloc hz0 (.cells #[] 9)).alloc ((hS.alloc hz0 (.cells #[] 9)).size) (.cells #[.string tx] 9)).size) (λq e=>by simp[Value.ownBlock]at e;subst e;omega)
          have hnew1:∀q,v1.ownBlock=some q→W6.heap.size≤q:=λq e=>by
           rcases at1 with z |z
           ·rw[z]at e;simp[Value.ownBlock]at e;subst e;omega
           ·rw[z]at e;injection e with e;have:=((hS.alloc hz0 (.cells #[] 9)).alloc ((hS.alloc hz0 (.cells #[] 9)).size) (.cells #[.string tx] 9)).size;omega
          refine⟨hba,?_⟩
          simp only[ap]
          refine h_one 8 ({ dst:=some 56,op:=Op.call { callee:=Callee.builtin Builtin.append,args := #[Operand.tmp 52,Operand.tmp 55],argTypes := #[40,40] },type:=40,pos := "ref.go:308",after := #[{ on:=4,ground:=Ground.data },{ on:=7,ground:=Ground.data },{ on:=4,ground:=Ground.chain }],guard:=none }:Oper) rfl (by kernel_rfl) rfl ?_
          refine app_wp _ _ rfl w1.heap.size v1 _ _ rfl (own1) _ 1 1 [.string tx] rfl (⟨rfl,(λe=>by cases e),(λad e=>by injection e with e;subst e;exact⟨Nat.lt_of_lt_of_le (by simp) grow1.size,λj u hu=>(World.cell?_of_block (grow1.block _ (by rw[blk_add];simp) (by rw[blk_add];simp[Value.ownBlock]))).trans (blk_cells (V0.alloc (.cells #[] 9)) [.string tx] 9 j u hu)⟩)⟩) (λu hu=>by rw[List.mem_singleton.1 hu];rfl) (by omega) (by have:=(hba).size;omega) ?_
          intro v2 wb own2 grow2 at2
          have hb2:Below W6.heap.size W6 wb:=(hba).grown grow2 ((hba).size) (λq e=>by have:=hnew1 q e;omega)
          have hnew2:∀q,v2.ownBlock=some q→W6.heap.size≤q:=λq e=>by
           rcases at2 with z |z
           ·exact hnew1 q (by rw[← z];exact e)
           ·rw[z]at e;injection e with e;have:=(hba).size;omega
          refine⟨hb2,?_⟩
          simp only[ap]
          refine h_one 12 ({ dst:=some 60,op:=Op.call { callee:=Callee.builtin Builtin.append,args := #[Operand.tmp 56,Operand.tmp 59],argTypes := #[40,40] },type:=40,pos := "ref.go:308",after := #[{ on:=8,ground:=Ground.data },{ on:=11,ground:=Ground.data },{ on:=8,ground:=Ground.chain }],guard:=none }:Oper) rfl (by kernel_rfl) rfl ?_
          refine app_wp _ _ rfl w1.heap.size v2 _ _ rfl own2 _ (m-k) (co-k) (encs (os.drop k)) rfl (HSRC3.out.below hb2) (encs_one _) (by omega) (by have:=hb2.size;omega) ?_
          intro v3 wc own3 grow3 at3
          have hb3:Below W6.heap.size W6 wc:=hb2.grown grow3 hb2.size (λq e=>by have:=hnew2 q e;omega)
          refine⟨hb3,?_⟩
          simp only[ap]
          refine h_one 13 ({ dst:=some 4,op:=Op.assign (Operand.tmp 60),type:=40,pos := "ref.go:308",after := #[{ on:=12,ground:=Ground.data },{ on:=12,ground:=Ground.chain },{ on:=0,ground:=Ground.phase },{ on:=1,ground:=Ground.phase },{ on:=2,ground:=Ground.phase },{ on:=3,ground:=Ground.phase },{ on:=4,ground:=Ground.phase },{ on:=5,ground:=Ground.phase },{ on:=6,ground:=Ground.phase },{ on:=7,ground:=Ground.phase },{ on:=8,ground:=Ground.phase },{ on:=9,ground:=Ground.phase },{ on:=10,ground:=Ground.phase },{ on:=11,ground:=Ground.phase },{ on:=12,ground:=Ground.phase }],guard:=none }:Oper) rfl (by kernel_rfl) rfl ?_
          refine assign_wp rfl rfl ⟨hb3,?_⟩
          simp only[ap]
          refine wpAnyH_done (by kernel_rfl) ?_ _
          have hlenI:(insT os k tx.data.toList).length=0+k+1+(m-k):=by rw[ins_len (by rw[HM.out];exact hkm2),HM.out];omega
          have hencI:encs (insT os k tx.data.toList)=([]++encs (os.take k))++[.string tx]++encs (os.drop k):=by unfold insT encs;rw[List.map_append,List.map_append];rw[show List.map Go.Proofs.encStr [tx.data.toList]=[.string tx]by rw[List.map_cons,enc_mk,List.map_nil]];rfl
          have HFIN:=Lib.hid (show PutR w1.heap.size (insT os k tx.data.toList) W6 v3 wc from⟨by rw[hlenI,hencI];exact own3,hb3⟩)
          clear own2 own3 grow2 grow3 at2 at3 hb2 hb3 hnew2 hlenI hencI hnew1 own1 hS hz0
          obtain⟨Aw,cw,rfl⟩:=own_slice HFIN.out.1
          have HF:=HFIN
          go_wp2
          go_roundw
          case rel=>
           obtain⟨ho,hup,hmem,hlen,hb⟩:=HI.out
           refine⟨i+1,insT os k tx.data.toList,by have:=HLT.out;omega,by go_num,HF.out.1,ins_up hup HLOW.out HHIGH.out,λx =>?_,by rw[ins_len (by rw[HM.out];exact HKM.out)];omega,hb.trans ((bt HB4.out (bt HB6.out HF.out.2)).mono hb.size)⟩
           rw[ins_mem,HST.out,List.mem_append,← hmem x,List.mem_singleton]
          case measure=>have:=HLT.out;simp[intOf];omega
        ·refine build1t_wp rfl rfl ⟨hS.alloc hz0 (.cells #[.string tx] 9),?_⟩
         simp only[ap]
         refine h_one 0 ({ dst:=some 48,op:=Op.buildSlice 40 0 #[],type:=40,pos := "ref.go:308",after := #[],guard:=none }:Oper) rfl (by kernel_rfl) rfl ?_
         refine build0_wp rfl ⟨(hS.alloc hz0 (.cells #[.string tx] 9)).alloc ((hS.alloc hz0 (.cells #[.string tx] 9)).size) (.cells #[] 9),?_⟩
         simp only[ap]
         refine h_one 4 ({ dst:=some 52,op:=Op.call { callee:=Callee.builtin Builtin.append,args := #[Operand.tmp 48,Operand.tmp 51],argTypes := #[40,40] },type:=40,pos := "ref.go:308",after := #[{ on:=0,ground:=Ground.data },{ on:=3,ground:=Ground.data }],guard:=none }:Oper) rfl (by kernel_rfl) rfl ?_
         refine app_wp _ _ rfl w1.heap.size (.slice (some ⟨(V0.alloc (.cells #[.string tx] 9)).heap.size,0,none⟩) 0 0) 0 [] rfl (World.ownsRow_made (V0.alloc (.cells #[.string tx] 9)) #[] 0 (by simp;omega) (by decide) rfl) Ao k co (encs (os.take k)) rfl (HSRC1.out.below ((hS.alloc hz0 (.cells #[.string tx] 9)).alloc ((hS.alloc hz0 (.cells #[.string tx] 9)).size) (.cells #[] 9))) (encs_one _) (by omega) (by have:=((hS.alloc hz0 (.cells #[.string tx] 9)).alloc ((hS.alloc hz0 (.cells #[.string tx] 9)).size) (.cells #[] 9)).size;omega) ?_
         intro v1 wa own1 grow1 at1
         have hba:Below W6.heap.size W6 wa:=((hS.alloc hz0 (.cells #[.string tx] 9)).alloc ((hS.alloc hz0 (.cells #[.string tx] 9)).size) (.cells #[] 9)).grown grow1 (((hS.alloc hz0 (.cells #[.string tx] 9)).alloc ((hS.alloc hz0 (.cells #[.string tx] 9)).size) (.cells #[] 9)).size) (λq e=>by simp[Value.ownBlock]at e;omega)
         have hnew1:∀q,v1.ownBlock=some q→W6.heap.size≤q:=λq e=>by
          rcases at1 with z |z
          ·rw[z]at e;simp[Value.ownBlock]at e;omega
          ·rw[z]at e;injection e with e;have:=((hS.alloc hz0 (.cells #[.string tx] 9)).alloc ((hS.alloc hz0 (.cells #[.string tx] 9)).size) (.cells #[] 9)).size;omega
         refine⟨hba,?_⟩
         simp only[ap]
         refine h_one 8 ({ dst:=some 56,op:=Op.call { callee:=Callee.builtin Builtin.append,args := #[Operand.tmp 52,Operand.tmp 55],argTypes := #[40,40] },type:=40,pos := "ref.go:308",after := #[{ on:=4,ground:=Ground.data },{ on:=7,ground:=Ground.data },{ on:=4,ground:=Ground.chain }],guard:=none }:Oper) rfl (by kernel_rfl) rfl ?_
         refine app_wp _ _ rfl w1.heap.size v1 _ _ rfl (own1) _ 1 1 [.string tx] rfl (⟨rfl,(λe=>by cases e),(λad e=>by injection e with e;subst e;exact⟨Nat.lt_of_lt_of_le (by simp;omega) grow1.size,λj u hu=>(World.cell?_of_block (grow1.block _ (by rw[blk_add];simp;omega) (by rw[blk_add];simp[Value.ownBlock]))).trans (((heap1 (V0.alloc (.cells #[.string tx] 9)) (.cells #[] 9)).cell (by rw[blk_add];simp)).trans (blk_cells V0 [.string tx] 9 j u hu))⟩)⟩) (λu hu=>by rw[List.mem_singleton.1 hu];rfl) (by omega) (by have:=(hba).size;omega) ?_
         intro v2 wb own2 grow2 at2
         have hb2:Below W6.heap.size W6 wb:=(hba).grown grow2 ((hba).size) (λq e=>by have:=hnew1 q e;omega)
         have hnew2:∀q,v2.ownBlock=some q→W6.heap.size≤q:=λq e=>by
          rcases at2 with z |z
          ·exact hnew1 q (by rw[← z];exact e)
          ·rw[z]at e;injection e with e;have:=(hba).size;omega
         refine⟨hb2,?_⟩
         simp only[ap]
         refine h_one 12 ({ dst:=some 60,op:=Op.call { callee:=Callee.builtin Builtin.append,args := #[Operand.tmp 56,Operand.tmp 59],argTypes := #[40,40] },type:=40,pos := "ref.go:308",after := #[{ on:=8,ground:=Ground.data },{ on:=11,ground:=Ground.data },{ on:=8,ground:=Ground.chain }],guard:=none }:Oper) rfl (by kernel_rfl) rfl ?_
         refine app_wp _ _ rfl w1.heap.size v2 _ _ rfl own2 _ (m-k) (co-k) (encs (os.drop k)) rfl (HSRC3.out.below hb2) (encs_one _) (by omega) (by have:=hb2.size;omega) ?_
         intro v3 wc own3 grow3 at3
         have hb3:Below W6.heap.size W6 wc:=hb2.grown grow3 hb2.size (λq e=>by have:=hnew2 q e;omega)
         refine⟨hb3,?_⟩
         simp only[ap]
         refine h_one 13 ({ dst:=some 4,op:=Op.assign (Operand.tmp 60),type:=40,pos := "ref.go:308",after := #[{ on:=12,ground:=Ground.data },{ on:=12,ground:=Ground.chain },{ on:=0,ground:=Ground.phase },{ on:=1,ground:=Ground.phase },{ on:=2,ground:=Ground.phase },{ on:=3,ground:=Ground.phase },{ on:=4,ground:=Ground.phase },{ on:=5,ground:=Ground.phase },{ on:=6,ground:=Ground.phase },{ on:=7,ground:=Ground.phase },{ on:=8,ground:=Ground.phase },{ on:=9,ground:=Ground.phase },{ on:=10,ground:=Ground.phase },{ on:=11,ground:=Ground.phase },{ on:=12,ground:=Ground.phase }],guard:=none }:Oper) rfl (by kernel_rfl) rfl ?_
         refine assign_wp rfl rfl ⟨hb3,?_⟩
         simp only[ap]
         refine wpAnyH_done (by kernel_rfl) ?_ _
         have hlenI:(insT os k tx.data.toList).length=0+k+1+(m-k):=by rw[ins_len (by rw[HM.out];exact hkm2),HM.out];omega
         have hencI:encs (insT os k tx.data.toList)=([]++encs (os.take k))++[.string tx]++encs (os.drop k):=by unfold insT encs;rw[List.map_append,List.map_append];rw[show List.map Go.Proofs.encStr [tx.data.toList]=[.string tx]by rw[List.map_cons,enc_mk,List.map_nil]];rfl
         have HFIN:=Lib.hid (show PutR w1.heap.size (insT os k tx.data.toList) W6 v3 wc from⟨by rw[hlenI,hencI];exact own3,hb3⟩)
         clear own2 own3 grow2 grow3 at2 at3 hb2 hb3 hnew2 hlenI hencI hnew1 own1 hS hz0
         obtain⟨Aw,cw,rfl⟩:=own_slice HFIN.out.1
         have HF:=HFIN
         go_wp2
         go_roundw
         case rel=>
          obtain⟨ho,hup,hmem,hlen,hb⟩:=HI.out
          refine⟨i+1,insT os k tx.data.toList,by have:=HLT.out;omega,by go_num,HF.out.1,ins_up hup HLOW.out HHIGH.out,λx =>?_,by rw[ins_len (by rw[HM.out];exact HKM.out)];omega,hb.trans ((bt HB4.out (bt HB6.out HF.out.2)).mono hb.size)⟩
          rw[ins_mem,HST.out,List.mem_append,← hmem x,List.mem_singleton]
         case measure=>have:=HLT.out;simp[intOf];omega
    ·have hk2:(kd != 18)=true:=by simpa using hk
     have HST:=Lib.hid (show chn (l.take (i+1))=chn (l.take i)from by rw[chn_step hil,HQ.out,if_neg hk,List.append_nil])
     have HB3:=Lib.hid (heap1 W2 (.cells #[.int .i64 kd,.int .i64 nn,.int .i64 pl,.string tx,.slice K ks.length cK] 37))
     clear hk
     go_wp2
     go_roundw
     case rel=>
      obtain⟨ho,hup,hmem,hlen,hb⟩:=HI.out
      exact⟨i+1,os,by have:=HLT.out;omega,by go_num,own9_below ho HB3.out,hup,λx=>by rw[HST.out];exact hmem x,by omega,hb.trans (HB3.out.mono hb.size)⟩
     case measure=>have:=HLT.out;simp[intOf];omega
   ·obtain rfl:i=n:=by omega
    have hiz:¬(i:Int)<(i:Int):=by omega
    have hfin:os=chL l:=chl_of hup (λx=>by rw[hmem x,List.take_of_length_le (by rw[← HLN.out];exact Nat.le_refl _)])
    have HF:=Lib.hid (And.intro (own_sts ho) (bt HB1.out hb))
    have HFI:=Lib.hid hfin
    clear ho hup hmem hb hfin
    go_wp2
    go_ret
    exact⟨Ao,co,by rw[← HFI.out];rfl,by rw[← HFI.out];exact HF.out.1,HF.out.2⟩
end
end Go.Proofs.YteecfjhjllajlaaGreatDoor
