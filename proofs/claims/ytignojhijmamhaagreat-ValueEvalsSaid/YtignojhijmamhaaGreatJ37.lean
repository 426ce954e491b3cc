/- PROVED here: parts TyTrRrA of the claim. No condition but those in each theorem's own head. -/
import Derived.Test.YtignojhijmamhaaGreatJ02
import Derived.Test.YtignojhijmamhaaGreatJ03
import Derived.Test.YtignojhijmamhaaGreatJ04
import Derived.Test.YtignojhijmamhaaGreatJ35
import Derived.Test.YtignojhijmamhaaGreatJ05
import Derived.Lib.Hide
import Derived.Tactics
import Derived.Tactics2
import Derived.WalkKit
import Derived.IntWalk
import Derived.KernelRfl
import Derived.Below
import Derived.Deep.Draws
import Derived.Deep.QuietTactic
import Derived.BigQuiet
import Derived.StillTailTactics
import Derived.Deep.DeepCutAuto
import Derived.Laws.OwnMore
import Derived.Laws.Rows
import Derived.OrdersHeld
import Derived.Deep.RegionWith
import Derived.Maps.AppendAt
import Derived.Laws.MakeOwn
import Derived.RangeFuncNested
import Derived.RangeFuncLeaves
import Derived.RangeFuncBound
import Derived.RangeFuncCalls
import Derived.RangeFuncBox
import Derived.Shelf.Abstract
import Derived.Shelf.RegionOpen
import Derived.OwnWalkIn
import Derived.TacticsInMore
import Derived.LoopNIn
import Derived.LoopIn
namespace Go.Proofs.YtignojhijmamhaaGreat.Ty.Tr
open Go
open Go Go.RowKit
open Go Go.RowKit Go.Shelf
attribute [local go_sem] Oper.semAt_some
attribute [local go_sem] Oper.semAt_some
theorem stO_snoc {b:Nat→Option Nat}:∀(p:List Int) (s:Nat) (k:Int),stO b (p++[k]) s=match stO b p s with|none=>none |some e=>stO b [k] e
 | [],s,k=>rfl
 |x :: p,s,k=>by
  rw[List.cons_append]
  unfold stO
  split
  ·rfl
  split
  ·split
   ·rfl
   ·exact stO_snoc p _ k
  ·rfl
theorem stO_none {b:Nat→Option Nat}:∀(p r:List Int) (s:Nat),stO b p s=none→stO b (p++r) s=none
 | [],_,_,h=>by cases h
 |x :: p,r,s,h=>by
  rw[List.cons_append]
  unfold stO at h ⊢
  split
  ·rfl
  ·rename_i h0
   rw[if_neg h0]at h
   split
   ·rename_i h1
    rw[if_pos h1]at h
    split
    ·rfl
    ·rename_i e he
     rw[he]at h
     exact stO_none p r e h
   ·rfl
def bgI:Option Nat→Int
 |none => -1
 |some s=>(s:Int)
set_option maxRecDepth 100000 in
set_option maxHeartbeats 1500000 in
theorem begins_any (A:Option Addr)(c n:Nat)(l:List Nd)(hn:n=l.length)(hl:n≤4000)(hk:∀x ∈ l,x.ks.length≤4000)(hK:Kin l n):∀(p:Nat),p<n→∀w:World,Nds w A l→Calls Tryz.prog 98 #[.slice A n c,.int .i64 (p:Int)] w (IPost (bgI (bgA l p)) w):=by
 intro p
 induction p using Nat.strongRecOn with
 |_ p ih=>
  intro hp w hN
  have hpl:p<l.length:=by omega
  obtain⟨bA,off,rfl,hbA,hcA⟩:=hN (by omega)
  obtain⟨K,ck,_,_,_,_,c4,hI⟩:=hcA p hpl
  have hks:=hk _ (List.getElem_mem hpl)
  have hkid:∀j (hj:j<l[p].ks.length),0≤l[p].ks[j]∧l[p].ks[j]<(p:Int):=fun j hj=>hK p hp _ (by rw[kidsAt_eq hpl];exact List.getElem_mem _)
  have HEQ:=Lib.hid (show bgA l p=stO (bgA l) l[p].ks.reverse p by rw[bgA_eq,kidsAt_eq hpl])
  have HKID:=Lib.hid hkid
  have HIH:=Lib.hid (fun(q:Nat) (hq:q<p) (w':World) (hb:Below w.heap.size w w')=>ih q hq (by omega) w' (hN.below hb))
  clear hcA hkid ih hN
  generalize l[p]=x at *
  obtain⟨kd,nn,pl,tx,ks⟩:=x
  dsimp only at c4 hI hks HEQ HKID
  obtain⟨v,hv⟩:∃v,v=bgI (bgA l p):=⟨_,rfl⟩
  rw[← hv]
  have HV:=Lib.hid hv
  have hpz:(p:Int)<(n:Int):=by omega
  clear hv hk hK hn
  go_enter Tryz.func98,Tryz.ntmps98
  go_wp2
  go_loopw [5,7] (fun kv iv wr=>∃(m s:Nat),m≤ks.length∧iv = .int .i64 ((m:Int)-1)∧kv = .int .i64 (s:Int)∧s≤p∧stO (bgA l) (ks.reverse.take (ks.length-m)) p=some s∧Below w.heap.size w wr) (fun _ iv _=>(intOf iv+1).toNat)
  case atStart=>exact⟨ks.length,p,Nat.le_refl _,by go_num,rfl,Nat.le_refl _,by rw[Nat.sub_self];rfl,Below.refl _ _⟩
  case round=>
   obtain⟨m,s,hm,rfl,rfl,hsp,hst,hbw⟩:=hrel
   cases m with
   |zero=>
    have hfin:v=(s:Int):=by
     rw[HV.out,HEQ.out]
     rw[show ks.reverse.take (ks.length-0)=ks.reverse from List.take_of_length_le (by simp)]at hst
     rw[hst];rfl
    have HF:=Lib.hid hfin
    clear hst hfin
    go_wp2
    go_ret
    exact⟨ret_int HF.out.symm,hbw⟩
   |succ j=>
    rw[show(((j+1:Nat):Int)-1)=(j:Int)by omega]
    have hj:j<ks.length:=by omega
    obtain⟨bK,oK,rfl,hbK,hcK⟩:=hI (by omega)
    have hck:=(hbw.cell (p:=⟨bK,oK+j,none⟩) hbK).trans (hcK j hj)
    obtain⟨hk0,hkp⟩:=HKID.out j hj
    have hstep:ks.reverse.take (ks.length-j)=ks.reverse.take (ks.length-(j+1))++[ks[j]]:=by
     have h1:ks.length-(j+1)<ks.reverse.length:=by rw[List.length_reverse];omega
     rw[show ks.length-j=ks.length-(j+1)+1 by omega,List.take_succ_eq_append_getElem h1,List.getElem_reverse]
     congr 3
     omega
    have HST:=Lib.hid (show stO (bgA l) (ks.reverse.take (ks.length-j)) p=stO (bgA l) [ks[j]] s by rw[hstep,stO_snoc,hst])
    have HALL:=Lib.hid (show ks.reverse=ks.reverse.take (ks.length-j)++ks.reverse.drop (ks.length-j) from(List.take_append_drop _ _).symm)
    clear hcK hstep hst
    generalize ks[j]=kk at *
    have hjz:(0:Int)≤(j:Int):=by omega
    by_cases e1:kk=(s:Int)-1
    ·obtain⟨s',rfl⟩:∃s',s=s'+1:=⟨s-1,by omega⟩
     have hkk:kk=(s':Int):=by omega
     subst hkk
     have q1:((s':Int) != (s':Int))=false:=by simp
     have q2:¬(s':Int)<0:=by omega
     have q3:decide ((s':Int)<0)=false:=decide_eq_false q2
     have HC:=Lib.hid (HIH.out s' (by omega) wr hbw)
     have HS1:=Lib.hid (show stO (bgA l) [(s':Int)] (s'+1)=bgA l s' by
      unfold stO
      rw[if_neg (by omega),if_pos (by omega),Nat.add_sub_cancel]
      cases bgA l s'<;>rfl)
     cases hbg:bgA l s' with
     |none=>
      rw[hbg]at HC HS1
      have HF:=Lib.hid (show v = -1 by
       rw[HV.out,HEQ.out,HALL.out,stO_none _ _ _ (by rw[HST.out,HS1.out])];rfl)
      have HC2:=Lib.hid (show Calls Tryz.prog 98 #[.slice (some ⟨bA,off,none⟩) n c,.int .i64 (s':Int)] wr (IPost (-1) wr)from HC.out)
      clear hbg HC e1
      rw[show(((s'+1:Nat):Int))=(s':Int)+1 by omega]
      go_wp2_with (go_at_call 98;refine HC2.out.mono ?_)
      rintro e w5 ⟨rfl,hb5⟩
      go_wp2
      go_ret
      exact⟨ret_int HF.out.symm,bt hbw hb5⟩
     |some s2=>
      have hle:=bgA_le l _ _ hbg
      rw[hbg]at HC HS1
      have HC2:=Lib.hid (show Calls Tryz.prog 98 #[.slice (some ⟨bA,off,none⟩) n c,.int .i64 (s':Int)] wr (IPost (s2:Int) wr)from HC.out)
      have HNX:=Lib.hid (show stO (bgA l) (ks.reverse.take (ks.length-j)) p=some s2 by rw[HST.out,HS1.out])
      clear hbg HC e1
      have q4:¬(s2:Int)<0:=by omega
      rw[show(((s'+1:Nat):Int))=(s':Int)+1 by omega]
      go_wp2_with (go_at_call 98;refine HC2.out.mono ?_)
      rintro e w5 ⟨rfl,hb5⟩
      go_wp2
      go_roundw
      case rel=>exact⟨j,s2,by omega,by go_num,rfl,by omega,HNX.out,bt hbw hb5⟩
      case measure=>simp[intOf]
    ·have q1:(kk != (s:Int)-1)=true:=by simpa using e1
     have HF:=Lib.hid (show v = -1 by
      rw[HV.out,HEQ.out,HALL.out,stO_none _ _ _ (by
       rw[HST.out]
       unfold stO
       by_cases h0:s=0
       ·rw[if_pos h0]
       ·rw[if_neg h0,if_neg e1])];rfl)
     clear e1
     go_wp2
     go_ret
     exact⟨ret_int HF.out.symm,hbw⟩
set_option maxRecDepth 100000 in
set_option maxHeartbeats 1500000 in
theorem rsound_any (A:Option Addr)(c n:Nat)(l:List Nd)(r:Int)(w:World)(hN:Nds w A l)(hn:n=l.length)(hk:∀x ∈ l,x.ks.length≤4000):Calls Tryz.prog 70 #[.agg #[.slice A n c,.int .i64 r]] w (BPost (sndB l r) w):=by
 have hb:Below w.heap.size w (w.alloc (.cells #[.slice A n c,.int .i64 r] 24)):=heap1 _ _
 obtain⟨W,hW⟩:∃W,w.alloc (.cells #[.slice A n c,.int .i64 r] 24)=W:=⟨_,rfl⟩
 have hB:Bx W w.heap.size 24 [.slice A n c,.int .i64 r]:=by rw[← hW];exact Bx.new w 24 _
 rw[hW]at hb
 have HN:=Lib.hid (hN.below hb)
 have HL:=Lib.hid hn
 have HK:=Lib.hid hk
 have d0:=hB.cell 0
 have d1:=hB.cell 1
 simp only[List.getElem?_cons_zero,List.getElem?_cons_succ]at d0 d1
 have no:∀(P:Prop),(Snd l r→P)→¬P→sndB l r=false:=fun P h1 h2=>sndB_false fun h=>h2 (h1 h)
 have HNO:=Lib.hid no
 clear hN hn hk no hB
 obtain⟨v,hv⟩:∃v,v=sndB l r:=⟨_,rfl⟩
 rw[← hv]
 have HV:=Lib.hid hv
 clear hv
 by_cases h1:(n:Int)<1
 ·have q1:decide ((n:Int)<1)=true:=decide_eq_true h1
  have HF:=Lib.hid (show v=false by rw[HV.out];exact HNO.out (1≤l.length) (fun h=>(snd_iff.1 h).1.1) (by rw[← HL.out];omega))
  go_enter Tryz.func70,Tryz.ntmps70
  go_wp2
  go_ret
  exact⟨ret_bool HF.out.symm,hb⟩
 ·have q1:decide ((n:Int)<1)=false:=decide_eq_false h1
  by_cases h2:(4000:Int)<(n:Int)
  ·have q2:decide ((4000:Int)<(n:Int))=true:=decide_eq_true h2
   have HF:=Lib.hid (show v=false by rw[HV.out];exact HNO.out (l.length≤4000) (fun h=>(snd_iff.1 h).1.2.1) (by rw[← HL.out];omega))
   go_enter Tryz.func70,Tryz.ntmps70
   go_wp2
   go_ret
   exact⟨ret_bool HF.out.symm,hb⟩
  ·have q2:decide ((4000:Int)<(n:Int))=false:=decide_eq_false h2
   by_cases h3:r=(n:Int)-1
   ·have q3:(r != (n:Int)-1)=false:=by simp[h3]
    obtain⟨n',hn'⟩:∃n',n'=n-1:=⟨_,rfl⟩
    have hnn:n'<n:=by omega
    have HR:=Lib.hid h3
    have HN':=Lib.hid (show(n:Int)-1=(n':Int)by omega)
    have HN2:=Lib.hid hn'
    clear h3 hn'
    go_enter Tryz.func70,Tryz.ntmps70
    go_wp2
    go_loop [4] (fun iv=>∃i:Nat,i≤n∧iv = .int .i64 (i:Int)∧Kin l i) (fun iv=>n-(intOf iv).toNat)
    case atStart=>exact⟨0,Nat.zero_le _,rfl,fun p hp=>absurd hp (Nat.not_lt_zero p)⟩
    case round=>
     obtain⟨i,hi,rfl,hKi⟩:=hrel
     have HKI:=Lib.hid hKi
     clear hKi
     by_cases hlt:i<n
     ·have hlz:(i:Int)<(n:Int):=by omega
      have hil:i<l.length:=by rw[← HL.out];exact hlt
      obtain⟨bA,off,rfl,hbA,hcA⟩:=HN.out (by omega)
      obtain⟨K,ck,_,_,_,_,c4,hI⟩:=hcA i hil
      have hks:=HK.out _ (List.getElem_mem hil)
      have HKA:=Lib.hid (kidsAt_eq hil)
      clear hcA
      generalize l[i]=x at *
      obtain⟨kd,nn,pl,tx,ks⟩:=x
      dsimp only at c4 hI hks HKA
      go_wp2
      go_loop [5] (fun jv=>∃j:Nat,j≤ks.length∧jv = .int .i64 (j:Int)∧∀k ∈ ks.take j,0≤k∧k<(i:Int)) (fun jv=>ks.length-(intOf jv).toNat)
      case atStart=>exact⟨0,Nat.zero_le _,rfl,fun k hk=>by simp at hk⟩
      case round=>
       obtain⟨j,hj,rfl,hkj⟩:=hrel
       have HKJ:=Lib.hid hkj
       clear hkj
       by_cases hjl:j<ks.length
       ·have hjz:(j:Int)<(ks.length:Int):=by omega
        obtain⟨bK,oK,rfl,hbK,hcK⟩:=hI (by omega)
        have hck:=hcK j hjl
        have HTJ:=Lib.hid (show ks.take (j+1)=ks.take j++[ks[j]]from List.take_succ_eq_append_getElem hjl)
        have HMM:=Lib.hid (show ks[j] ∈ kidsAt l i by rw[HKA.out];exact List.getElem_mem _)
        clear hcK
        generalize ks[j]=kk at *
        by_cases g1:kk<0
        ·have t1:decide (kk<0)=true:=decide_eq_true g1
         have HF:=Lib.hid (show v=false by rw[HV.out];exact HNO.out (Kin l l.length) (fun h=>(snd_iff.1 h).2.1) (fun h=>by have:=(h i hil kk HMM.out).1;omega))
         go_wp2
         go_ret
         exact⟨ret_bool HF.out.symm,hb⟩
        ·have t1:decide (kk<0)=false:=decide_eq_false g1
         by_cases g2:(i:Int)≤kk
         ·have t2:decide ((i:Int)≤kk)=true:=decide_eq_true g2
          have HF:=Lib.hid (show v=false by rw[HV.out];exact HNO.out (Kin l l.length) (fun h=>(snd_iff.1 h).2.1) (fun h=>by have:=(h i hil kk HMM.out).2;omega))
          go_wp2
          go_ret
          exact⟨ret_bool HF.out.symm,hb⟩
         ·have t2:decide ((i:Int)≤kk)=false:=decide_eq_false g2
          go_wp2
          go_round
          case rel=>
           refine⟨j+1,by omega,by go_num,?_⟩
           rw[HTJ.out]
           intro k hk
           rcases List.mem_append.1 hk with hk |hk
           ·exact HKJ.out k hk
           ·obtain rfl:k=kk:=by simpa using hk
            omega
          case measure=>simp[intOf];omega
       ·obtain rfl:j=ks.length:=by omega
        have hjz:¬(ks.length:Int)<(ks.length:Int):=by omega
        go_wp2
        go_round
        case rel=>
         refine⟨i+1,by omega,by go_num,fun p hp k hk =>?_⟩
         by_cases e:p=i
         ·subst e
          rw[HKA.out]at hk
          have h7:=HKJ.out
          rw[List.take_length]at h7
          exact h7 k hk
         ·exact HKI.out p (by omega) k hk
        case measure=>simp[intOf];omega
     ·obtain rfl:i=n:=by omega
      have hlz:¬(i:Int)<(i:Int):=by omega
      have HBG:=Lib.hid (begins_any A c i l HL.out (by omega) HK.out HKI.out n' hnn W HN.out)
      have HV2:=Lib.hid (show v=(bgI (bgA l n')==0) by
       rw[HV.out,Bool.eq_iff_iff,beq_iff_eq]
       have hkin:Kin l l.length:=by rw[← HL.out];exact HKI.out
       have hnl:l.length-1=n':=by rw[← HL.out,HN2.out]
       constructor
       ·intro h
        have h8:Snd l r:=by
         by_cases h9:Snd l r
         ·exact h9
         ·rw[sndB_false h9]at h;cases h
        have h9:=(snd_iff.1 h8).2.2
        rw[hnl]at h9
        rw[h9];rfl
       ·intro h
        have h9:bgA l n'=some 0:=by
         cases h10:bgA l n' with
         |none=>rw[h10]at h;exact absurd h (by decide)
         |some s=>
          rw[h10]at h
          have h11:(s:Int)=0:=h
          have:s=0:=by omega
          rw[this]
        exact sndB_true (snd_iff.2 ⟨⟨by rw[← HL.out];omega,by rw[← HL.out];omega,by rw[← HL.out];exact HR.out⟩,hkin,by rw[hnl];exact h9⟩))
      have hz:=HN'.out
      generalize bgI (bgA l n')=z at *
      go_wp2_with (go_at_call 98;refine HBG.out.mono ?_)
      rintro e w5 ⟨rfl,hb5⟩
      clear hz
      go_wp2
      go_ret
      exact⟨ret_bool HV2.out.symm,bt hb hb5⟩
   ·have q3:(r != (n:Int)-1)=true:=by simpa using h3
    have HF:=Lib.hid (show v=false by rw[HV.out];exact HNO.out (r=(l.length:Int)-1) (fun h=>(snd_iff.1 h).1.2.2) (by rw[← HL.out];exact h3))
    clear h3
    go_enter Tryz.func70,Tryz.ntmps70
    go_wp2
    go_ret
    exact⟨ret_bool HF.out.symm,hb⟩
end Go.Proofs.YtignojhijmamhaaGreat.Ty.Tr
