/- PROVED here: parts TyTrRrE of the claim. No condition but those in each theorem's own head. -/
import Derived.Test.YtignojhijmamhaaGreatJ39
namespace Go.Proofs.YtignojhijmamhaaGreat.Ty.Tr
open Go Go.RowKit
def bs (l:List UInt8):ByteArray:=⟨l.toArray⟩
theorem bs_list (l:List UInt8):(bs l).data.toList=l:=by simp[bs]
def sv (L:List (List UInt8)):List Value:=L.map fun x=>Value.string (bs x)
theorem rdigit_any (c:UInt8)(w:World):Calls Tryz.prog 136 #[.int .u8 (c.toNat:Int)] w fun e w'=>e = .returned (.bool (dgB c))∧w=w':=by
 by_cases h1:48≤(c.toNat:Int)
 ·have hb:dgB c=decide ((c.toNat:Int)≤57):=by unfold dgB;rw[Bool.eq_iff_iff];simp;omega
  rw[hb];clear hb
  by_cases h2:(c.toNat:Int)≤57
  ·rw[decide_eq_true h2]
   go_enter Tryz.func136,Tryz.ntmps136
   go_wp2
   go_ret
   simp
  ·rw[decide_eq_false h2]
   go_enter Tryz.func136,Tryz.ntmps136
   go_wp2
   go_ret
   simp
 ·have hb:dgB c=false:=by unfold dgB;rw[decide_eq_false (by omega)];rfl
  rw[hb];clear hb
  go_enter Tryz.func136,Tryz.ntmps136
  go_wp2
  go_ret
  simp
theorem rpart_any (c:UInt8)(w:World):Calls Tryz.prog 134 #[.int .u8 (c.toNat:Int)] w fun e w'=>e = .returned (.bool (wdB c))∧w=w':=by
 cases hd:dgB c
 ·rcases five c with h |h |h |h |h
  ·have hb:wdB c=true:=by unfold wdB;simp;omega
   rw[hb];clear hb
   obtain⟨h1,h2⟩:=h
   go_enter Tryz.func134,Tryz.ntmps134
   go_wp2_with (go_at_call 136;refine(rdigit_any _ _).mono ?_;rintro e w' ⟨rfl,rfl⟩)
   go_ret
   simp
  ·have hb:wdB c=false:=by unfold wdB;rw[hd];simp;omega
   have q:((c.toNat:Int)==95)=false:=by simp;omega
   rw[hb];clear hb
   have h1:97≤(c.toNat:Int):=by omega
   have h2:¬(c.toNat:Int)≤122:=by omega
   have h3:65≤(c.toNat:Int):=by omega
   have h4:¬(c.toNat:Int)≤90:=by omega
   go_enter Tryz.func134,Tryz.ntmps134
   go_wp2_with (go_at_call 136;refine(rdigit_any _ _).mono ?_;rintro e w' ⟨rfl,rfl⟩)
   go_ret
   simp
   omega
  ·have hb:wdB c=true:=by unfold wdB;simp;omega
   rw[hb];clear hb
   obtain⟨h3,h4⟩:=h
   have h1:¬97≤(c.toNat:Int):=by omega
   go_enter Tryz.func134,Tryz.ntmps134
   go_wp2_with (go_at_call 136;refine(rdigit_any _ _).mono ?_;rintro e w' ⟨rfl,rfl⟩)
   go_ret
   simp
  ·have hb:wdB c=false:=by unfold wdB;rw[hd];simp;omega
   rw[hb];clear hb
   have h1:¬97≤(c.toNat:Int):=by omega
   have h3:¬65≤(c.toNat:Int):=by omega
   have q:((c.toNat:Int)==95)=false:=by simp;omega
   go_enter Tryz.func134,Tryz.ntmps134
   go_wp2_with (go_at_call 136;refine(rdigit_any _ _).mono ?_;rintro e w' ⟨rfl,rfl⟩)
   go_ret
   simp
  ·have hb:wdB c=((c.toNat:Int)==95):=by rw[Bool.eq_iff_iff];unfold wdB;rw[hd];simp;omega
   rw[hb];clear hb
   have h1:¬97≤(c.toNat:Int):=by omega
   have h3:65≤(c.toNat:Int):=by omega
   have h4:¬(c.toNat:Int)≤90:=by omega
   generalize hq:((c.toNat:Int)==95)=b at *
   go_enter Tryz.func134,Tryz.ntmps134
   go_wp2_with (go_at_call 136;refine(rdigit_any _ _).mono ?_;rintro e w' ⟨rfl,rfl⟩)
   go_ret
   simp
   intro h5
   exfalso
   omega
 ·have hb:wdB c=true:=by unfold wdB;rw[hd];simp
  rw[hb];clear hb
  go_enter Tryz.func134,Tryz.ntmps134
  go_wp2_with (go_at_call 136;refine(rdigit_any _ _).mono ?_;rintro e w' ⟨rfl,rfl⟩)
  go_ret
  simp
def kwL:List (List UInt8):=[[118,97,114],[112,114,111,99],[105,110,116],[98,111,111,108],[97,114,114],[102,117,110],[105,110],[111,117,116],[105,102],[101,108,115,101],[119,104,105,108,101],[99,97,108,108],[114,101,116,117,114,110],[116,104,114,111,119],[116,114,121],[99,97,116,99,104],[110,101,119],[108,101,110],[116,114,117,101],[102,97,108,115,101]]
theorem kept_mem (l:List UInt8):keptB l=true↔l ∈ kwL:=by
 simp only[keptB,kwL,Bool.or_eq_true,beq_iff_eq,List.mem_cons,List.not_mem_nil,or_false,or_assoc]
def SB (w:World)(g:Nat)(L:List (List UInt8)):Prop:=∀k (hk:k<L.length),w.cell? ⟨g,k,none⟩=some (.string (bs L[k]))
theorem sb_alloc (w:World)(cs:Array Value)(L:List (List UInt8))(h:cs.toList=sv L):SB (w.alloc (.cells cs 9)) w.heap.size L:=fun k hk=>by
 rw[cell_of_row (w.alloc (.cells cs 9)) w.heap.size k cs 9 (0,0) (World.alloc_heap_new w _),← Array.getElem?_toList,h]
 unfold sv
 rw[List.getElem?_map,List.getElem?_eq_getElem hk];rfl
def kwC:Array Value := #[.string ⟨#[118,97,114]⟩,.string ⟨#[112,114,111,99]⟩,.string ⟨#[105,110,116]⟩,.string ⟨#[98,111,111,108]⟩,.string ⟨#[97,114,114]⟩,.string ⟨#[102,117,110]⟩,.string ⟨#[105,110]⟩,.string ⟨#[111,117,116]⟩,.string ⟨#[105,102]⟩,.string ⟨#[101,108,115,101]⟩,.string ⟨#[119,104,105,108,101]⟩,.string ⟨#[99,97,108,108]⟩,.string ⟨#[114,101,116,117,114,110]⟩,.string ⟨#[116,104,114,111,119]⟩,.string ⟨#[116,114,121]⟩,.string ⟨#[99,97,116,99,104]⟩,.string ⟨#[110,101,119]⟩,.string ⟨#[108,101,110]⟩,.string ⟨#[116,114,117,101]⟩,.string ⟨#[102,97,108,115,101]⟩]
theorem kwC_sv:kwC.toList=sv kwL:=by kernel_rfl
def NotTo (L:List (List UInt8))(l:List UInt8)(k:Nat):Prop:=∀j (h:j<L.length),j<k→L[j]≠l
set_option maxRecDepth 100000 in
set_option maxHeartbeats 1500000 in
theorem rkept_any (s:ByteArray)(w:World):Calls Tryz.prog 135 #[.string s] w fun e w'=>e = .returned (.bool (keptB s.data.toList))∧Below w.heap.size w w':=by
 go_enter Tryz.func135,Tryz.ntmps135
 go_upto_region 2 with(fail)
 refine gen_world (fun w'=>SB w' w.heap.size kwL∧Below w.heap.size w w') ⟨sb_alloc w kwC kwL kwC_sv,heap1 w _⟩ ?_
 rintro w1 ⟨hS,hb⟩
 have HS:=Lib.hid hS
 clear hS
 go_wp2
 go_loop [4] (fun i=>∃k:Nat,k≤20∧i = .int .i64 (k:Int)∧NotTo kwL s.data.toList k) (fun i=>20-(intOf i).toNat)
 case atStart=>exact⟨0,by omega,rfl,fun j _ h=>by omega⟩
 case round=>
  obtain⟨k,hk,rfl,hN⟩:=hrel
  by_cases hlt:k<20
  ·have hlz:(k:Int)<20:=by omega
   have hkl:k<kwL.length:=hlt
   have hc:=HS.out k hkl
   obtain⟨x,hx⟩:∃x,x=kwL[k]:=⟨_,rfl⟩
   rw[← hx]at hc
   by_cases he:x=s.data.toList
   ·have hq:((bs x).toList==s.toList)=true:=by rw[ByteArray.toList_eq,ByteArray.toList_eq,bs_list];exact beq_iff_eq.2 he
    have HT:=Lib.hid (show keptB s.data.toList=true by rw[kept_mem,← he,hx];exact List.getElem_mem _)
    clear he hx
    go_wp2
    go_ret
    exact⟨ret_bool HT.out.symm,hb⟩
   ·have hq:((bs x).toList==s.toList)=false:=by rw[ByteArray.toList_eq,ByteArray.toList_eq,bs_list];exact beq_eq_false_iff_ne.2 he
    have HN:=Lib.hid (show NotTo kwL s.data.toList (k+1)from fun j h h2=>by
     by_cases e:j=k
     ·subst e;rw[← hx];exact he
     ·exact hN j h (by omega))
    clear he hx
    go_wp2
    go_round
    case rel=>exact⟨k+1,by omega,by go_num,HN.out⟩
    case measure=>simp[intOf];omega
  ·have hlz:¬(k:Int)<20:=by omega
   have HT:=Lib.hid (show keptB s.data.toList=false by
    cases h:keptB s.data.toList
    ·rfl
    ·rw[kept_mem]at h
     obtain⟨j,hj,e⟩:=List.getElem_of_mem h
     have hj2:j<20:=hj
     exact absurd e (hN j hj (by omega)))
   go_wp2
   go_ret
   exact⟨ret_bool HT.out.symm,hb⟩
set_option maxRecDepth 100000 in
set_option maxHeartbeats 1500000 in
theorem rident_any (s:ByteArray)(w:World)(hmax:s.size≤281474976710656):Calls Tryz.prog 115 #[.string s] w (BPost (idB s.data.toList) w):=by
 have HL:=Lib.hid (show s.data.toList.length=s.size by simp)
 go_enter Tryz.func115,Tryz.ntmps115
 go_wp2_with (fail)
 go_loop [3] (fun i=>∃k:Nat,k≤s.size∧i = .int .i64 (k:Int)∧allW (s.data.toList.take k)=true) (fun i=>s.size-(intOf i).toNat)
 case atStart=>exact⟨0,Nat.zero_le _,rfl,rfl⟩
 case round=>
  obtain⟨k,hk,rfl,ha⟩:=hrel
  have HA:=Lib.hid ha
  clear ha
  by_cases hlt:k<s.size
  ·have hts:=Lib.hid (take_snoc s k hlt)
   have hlz:(k:Int)<(s.size:Int):=by omega
   cases hw:wdB s[k]
   ·have HF:=Lib.hid (show idB s.data.toList=false by
     have:allW s.data.toList=false:=by
      unfold allW
      rw[List.all_eq_false]
      exact⟨s[k],by simp[ByteArray.getElem_eq_getElem_data],by simp[hw]⟩
     unfold idB;rw[this];simp)
    go_wp2_with (go_at_call 134;refine(rpart_any _ _).mono ?_;rintro e w' ⟨rfl,rfl⟩)
    go_ret
    exact⟨ret_bool HF.out.symm,Below.refl _ _⟩
   ·go_wp2_with (go_at_call 134;refine(rpart_any _ _).mono ?_;rintro e w' ⟨rfl,rfl⟩)
    go_round
    case rel=>exact⟨k+1,by omega,by go_num,allW_snoc hts.out HA.out hw⟩
    case measure=>simp[intOf];omega
  ·have hlz:¬(k:Int)<(s.size:Int):=by omega
   have HW:=Lib.hid (show allW s.data.toList=true by
    have:=HA.out
    rwa [List.take_of_length_le (by rw[HL.out];omega)]at this)
   clear HA
   by_cases h1:1≤s.size
   ·have hz1:(1:Int)≤(s.size:Int):=by omega
    have HH:=Lib.hid (head_get s h1)
    have h0:0<s.size:=h1
    by_cases h2:s.size≤20
    ·have hz2:(s.size:Int)≤20:=by omega
     have HF:=Lib.hid (show idB s.data.toList=(!(dgB s[0]) && !(keptB s.data.toList)) by
      unfold idB;rw[HW.out,HH.out,HL.out,decide_eq_true h1,decide_eq_true h2];simp)
     cases hd:dgB s[0]
     ·cases hk:keptB s.data.toList
      ·have HF2:=Lib.hid (show idB s.data.toList=true by rw[HF.out,hd,hk];rfl)
       go_wp2_with (first|(go_at_call 135;refine(rkept_any _ _).mono ?_;rintro e w2 ⟨rfl,hb2⟩) |(go_at_call 136;refine(rdigit_any _ _).mono ?_;rintro e w' ⟨rfl,rfl⟩))
       go_ret
       exact⟨ret_bool HF2.out.symm,hb2⟩
      ·have HF2:=Lib.hid (show idB s.data.toList=false by rw[HF.out,hk];simp)
       go_wp2_with (first|(go_at_call 135;refine(rkept_any _ _).mono ?_;rintro e w2 ⟨rfl,hb2⟩) |(go_at_call 136;refine(rdigit_any _ _).mono ?_;rintro e w' ⟨rfl,rfl⟩))
       go_ret
       exact⟨ret_bool HF2.out.symm,hb2⟩
     ·have HF2:=Lib.hid (show idB s.data.toList=false by rw[HF.out,hd];rfl)
      go_wp2_with (first|(go_at_call 135;refine(rkept_any _ _).mono ?_;rintro e w2 ⟨rfl,hb2⟩) |(go_at_call 136;refine(rdigit_any _ _).mono ?_;rintro e w' ⟨rfl,rfl⟩))
      go_ret
      exact⟨ret_bool HF2.out.symm,hb2⟩
    ·have hz2:¬(s.size:Int)≤20:=by omega
     have HF2:=Lib.hid (id_false_len (l:=s.data.toList) (.inr (by rw[HL.out];omega)))
     go_wp2_with (first|(go_at_call 135;refine(rkept_any _ _).mono ?_;rintro e w2 ⟨rfl,hb2⟩) |(go_at_call 136;refine(rdigit_any _ _).mono ?_;rintro e w' ⟨rfl,rfl⟩))
     go_ret
     exact⟨ret_bool HF2.out.symm,hb2⟩
   ·have hz1:¬(1:Int)≤(s.size:Int):=by omega
    have HF2:=Lib.hid (id_false_len (l:=s.data.toList) (.inl (by rw[HL.out];omega)))
    go_wp2_with (first|(go_at_call 135;refine(rkept_any _ _).mono ?_;rintro e w2 ⟨rfl,hb2⟩) |(go_at_call 136;refine(rdigit_any _ _).mono ?_;rintro e w' ⟨rfl,rfl⟩))
    go_ret
    exact⟨ret_bool HF2.out.symm,hb2⟩
def sgL:List (List UInt8):=[[43],[45],[42],[47],[37],[61,61],[33,61],[60],[60,61],[62],[62,61],[38,38],[124,124]]
theorem sg_mem (l:List UInt8):sgB l=true↔l ∈ sgL:=by
 simp only[sgB,sgL,Bool.or_eq_true,beq_iff_eq,List.mem_cons,List.not_mem_nil,or_false,or_assoc]
def sgC:Array Value := #[.string ⟨#[43]⟩,.string ⟨#[45]⟩,.string ⟨#[42]⟩,.string ⟨#[47]⟩,.string ⟨#[37]⟩,.string ⟨#[61,61]⟩,.string ⟨#[33,61]⟩,.string ⟨#[60]⟩,.string ⟨#[60,61]⟩,.string ⟨#[62]⟩,.string ⟨#[62,61]⟩,.string ⟨#[38,38]⟩,.string ⟨#[124,124]⟩]
theorem sgC_sv:sgC.toList=sv sgL:=by kernel_rfl
set_option maxRecDepth 100000 in
set_option maxHeartbeats 1500000 in
theorem signed_any (s:ByteArray)(w:World):Calls Tryz.prog 116 #[.string s] w fun e w'=>e = .returned (.bool (sgB s.data.toList))∧Below w.heap.size w w':=by
 go_enter Tryz.func116,Tryz.ntmps116
 go_upto_region 2 with(fail)
 refine gen_world (fun w'=>SB w' w.heap.size sgL∧Below w.heap.size w w') ⟨sb_alloc w sgC sgL sgC_sv,heap1 w _⟩ ?_
 rintro w1 ⟨hS,hb⟩
 have HS:=Lib.hid hS
 clear hS
 go_wp2
 go_loop [4] (fun i=>∃k:Nat,k≤13∧i = .int .i64 (k:Int)∧NotTo sgL s.data.toList k) (fun i=>13-(intOf i).toNat)
 case atStart=>exact⟨0,by omega,rfl,fun j _ h=>by omega⟩
 case round=>
  obtain⟨k,hk,rfl,hN⟩:=hrel
  by_cases hlt:k<13
  ·have hlz:(k:Int)<13:=by omega
   have hkl:k<sgL.length:=hlt
   have hc:=HS.out k hkl
   obtain⟨x,hx⟩:∃x,x=sgL[k]:=⟨_,rfl⟩
   rw[← hx]at hc
   by_cases he:x=s.data.toList
   ·have hq:((bs x).toList==s.toList)=true:=by rw[ByteArray.toList_eq,ByteArray.toList_eq,bs_list];exact beq_iff_eq.2 he
    have HT:=Lib.hid (show sgB s.data.toList=true by rw[sg_mem,← he,hx];exact List.getElem_mem _)
    clear he hx
    go_wp2
    go_ret
    exact⟨ret_bool HT.out.symm,hb⟩
   ·have hq:((bs x).toList==s.toList)=false:=by rw[ByteArray.toList_eq,ByteArray.toList_eq,bs_list];exact beq_eq_false_iff_ne.2 he
    have HN:=Lib.hid (show NotTo sgL s.data.toList (k+1)from fun j h h2=>by
     by_cases e:j=k
     ·subst e;rw[← hx];exact he
     ·exact hN j h (by omega))
    clear he hx
    go_wp2
    go_round
    case rel=>exact⟨k+1,by omega,by go_num,HN.out⟩
    case measure=>simp[intOf];omega
  ·have hlz:¬(k:Int)<13:=by omega
   have HT:=Lib.hid (show sgB s.data.toList=false by
    cases h:sgB s.data.toList
    ·rfl
    ·rw[sg_mem]at h
     obtain⟨j,hj,e⟩:=List.getElem_of_mem h
     have hj2:j<13:=hj
     exact absurd e (hN j hj (by omega)))
   go_wp2
   go_ret
   exact⟨ret_bool HT.out.symm,hb⟩
set_option maxRecDepth 100000 in
set_option maxHeartbeats 1500000 in
theorem tx_2 (n pl:Int)(tx:ByteArray)(K:Option Addr)(m c:Nat)(w:World)(hmax:tx.size≤281474976710656):Calls Tryz.prog 99 #[.agg #[.int .i64 2,.int .i64 n,.int .i64 pl,.string tx,.slice K m c]] w (BPost (txB 2 tx.data.toList) w):=by
 have hb:Below w.heap.size w (w.alloc (.cells #[.int .i64 2,.int .i64 n,.int .i64 pl,.string tx,.slice K m c] 66)):=heap1 _ _
 obtain⟨W,hW⟩:∃W,w.alloc (.cells #[.int .i64 2,.int .i64 n,.int .i64 pl,.string tx,.slice K m c] 66)=W:=⟨_,rfl⟩
 have hB:Bx W w.heap.size 66 [.int .i64 2,.int .i64 n,.int .i64 pl,.string tx,.slice K m c]:=by rw[← hW];exact Bx.new w 66 _
 rw[hW]at hb
 have HC:=Lib.hid (rident_any tx W hmax)
 have d3:=hB.cell 3
 simp only[List.getElem?_cons_zero,List.getElem?_cons_succ]at d3
 have HE:=Lib.hid (show txB 2 tx.data.toList=idB tx.data.toList by unfold txB;simp)
 generalize idB tx.data.toList=v at *
 go_enter Tryz.func99,Tryz.ntmps99
 go_wp2_with (go_at_call 115;refine HC.out.mono ?_)
 rintro e w1 ⟨rfl,hb1⟩
 have hB1:=hB.below hb1 hB.lt
 clear d3
 have d0:=hB1.cell 0
 have d3:=hB1.cell 3
 simp only[List.getElem?_cons_zero,List.getElem?_cons_succ]at d0 d3
 go_wp2
 go_ret
 exact⟨ret_bool HE.out.symm,bt hb hb1⟩
set_option maxRecDepth 100000 in
set_option maxHeartbeats 1500000 in
theorem tx_3 (n pl:Int)(tx:ByteArray)(K:Option Addr)(m c:Nat)(w:World)(hmax:tx.size≤281474976710656):Calls Tryz.prog 99 #[.agg #[.int .i64 3,.int .i64 n,.int .i64 pl,.string tx,.slice K m c]] w (BPost (txB 3 tx.data.toList) w):=by
 have hb:Below w.heap.size w (w.alloc (.cells #[.int .i64 3,.int .i64 n,.int .i64 pl,.string tx,.slice K m c] 66)):=heap1 _ _
 obtain⟨W,hW⟩:∃W,w.alloc (.cells #[.int .i64 3,.int .i64 n,.int .i64 pl,.string tx,.slice K m c] 66)=W:=⟨_,rfl⟩
 have hB:Bx W w.heap.size 66 [.int .i64 3,.int .i64 n,.int .i64 pl,.string tx,.slice K m c]:=by rw[← hW];exact Bx.new w 66 _
 rw[hW]at hb
 have HC:=Lib.hid (rident_any tx W hmax)
 have d3:=hB.cell 3
 simp only[List.getElem?_cons_zero,List.getElem?_cons_succ]at d3
 have HE:=Lib.hid (show txB 3 tx.data.toList=idB tx.data.toList by unfold txB;simp)
 generalize idB tx.data.toList=v at *
 go_enter Tryz.func99,Tryz.ntmps99
 go_wp2_with (go_at_call 115;refine HC.out.mono ?_)
 rintro e w1 ⟨rfl,hb1⟩
 have hB1:=hB.below hb1 hB.lt
 clear d3
 have d0:=hB1.cell 0
 have d3:=hB1.cell 3
 simp only[List.getElem?_cons_zero,List.getElem?_cons_succ]at d0 d3
 go_wp2
 go_ret
 exact⟨ret_bool HE.out.symm,bt hb hb1⟩
set_option maxRecDepth 100000 in
set_option maxHeartbeats 1500000 in
theorem tx_4 (n pl:Int)(tx:ByteArray)(K:Option Addr)(m c:Nat)(w:World)(hmax:tx.size≤281474976710656):Calls Tryz.prog 99 #[.agg #[.int .i64 4,.int .i64 n,.int .i64 pl,.string tx,.slice K m c]] w (BPost (txB 4 tx.data.toList) w):=by
 have hb:Below w.heap.size w (w.alloc (.cells #[.int .i64 4,.int .i64 n,.int .i64 pl,.string tx,.slice K m c] 66)):=heap1 _ _
 obtain⟨W,hW⟩:∃W,w.alloc (.cells #[.int .i64 4,.int .i64 n,.int .i64 pl,.string tx,.slice K m c] 66)=W:=⟨_,rfl⟩
 have hB:Bx W w.heap.size 66 [.int .i64 4,.int .i64 n,.int .i64 pl,.string tx,.slice K m c]:=by rw[← hW];exact Bx.new w 66 _
 rw[hW]at hb
 have HC:=Lib.hid (rident_any tx W hmax)
 have d3:=hB.cell 3
 simp only[List.getElem?_cons_zero,List.getElem?_cons_succ]at d3
 have HE:=Lib.hid (show txB 4 tx.data.toList=idB tx.data.toList by unfold txB;simp)
 generalize idB tx.data.toList=v at *
 go_enter Tryz.func99,Tryz.ntmps99
 go_wp2_with (go_at_call 115;refine HC.out.mono ?_)
 rintro e w1 ⟨rfl,hb1⟩
 have hB1:=hB.below hb1 hB.lt
 clear d3
 have d0:=hB1.cell 0
 have d3:=hB1.cell 3
 simp only[List.getElem?_cons_zero,List.getElem?_cons_succ]at d0 d3
 go_wp2
 go_ret
 exact⟨ret_bool HE.out.symm,bt hb hb1⟩
set_option maxRecDepth 100000 in
set_option maxHeartbeats 1500000 in
theorem tx_5 (n pl:Int)(tx:ByteArray)(K:Option Addr)(m c:Nat)(w:World)(hmax:tx.size≤281474976710656):Calls Tryz.prog 99 #[.agg #[.int .i64 5,.int .i64 n,.int .i64 pl,.string tx,.slice K m c]] w (BPost (txB 5 tx.data.toList) w):=by
 have hb:Below w.heap.size w (w.alloc (.cells #[.int .i64 5,.int .i64 n,.int .i64 pl,.string tx,.slice K m c] 66)):=heap1 _ _
 obtain⟨W,hW⟩:∃W,w.alloc (.cells #[.int .i64 5,.int .i64 n,.int .i64 pl,.string tx,.slice K m c] 66)=W:=⟨_,rfl⟩
 have hB:Bx W w.heap.size 66 [.int .i64 5,.int .i64 n,.int .i64 pl,.string tx,.slice K m c]:=by rw[← hW];exact Bx.new w 66 _
 rw[hW]at hb
 have HC:=Lib.hid (rident_any tx W hmax)
 have d3:=hB.cell 3
 simp only[List.getElem?_cons_zero,List.getElem?_cons_succ]at d3
 have HE:=Lib.hid (show txB 5 tx.data.toList=idB tx.data.toList by unfold txB;simp)
 generalize idB tx.data.toList=v at *
 go_enter Tryz.func99,Tryz.ntmps99
 go_wp2_with (go_at_call 115;refine HC.out.mono ?_)
 rintro e w1 ⟨rfl,hb1⟩
 have hB1:=hB.below hb1 hB.lt
 clear d3
 have d0:=hB1.cell 0
 have d3:=hB1.cell 3
 simp only[List.getElem?_cons_zero,List.getElem?_cons_succ]at d0 d3
 go_wp2
 go_ret
 exact⟨ret_bool HE.out.symm,bt hb hb1⟩
set_option maxRecDepth 100000 in
set_option maxHeartbeats 1500000 in
theorem tx_7 (n pl:Int)(tx:ByteArray)(K:Option Addr)(m c:Nat)(w:World)(hmax:tx.size≤281474976710656):Calls Tryz.prog 99 #[.agg #[.int .i64 7,.int .i64 n,.int .i64 pl,.string tx,.slice K m c]] w (BPost (txB 7 tx.data.toList) w):=by
 have hb:Below w.heap.size w (w.alloc (.cells #[.int .i64 7,.int .i64 n,.int .i64 pl,.string tx,.slice K m c] 66)):=heap1 _ _
 obtain⟨W,hW⟩:∃W,w.alloc (.cells #[.int .i64 7,.int .i64 n,.int .i64 pl,.string tx,.slice K m c] 66)=W:=⟨_,rfl⟩
 have hB:Bx W w.heap.size 66 [.int .i64 7,.int .i64 n,.int .i64 pl,.string tx,.slice K m c]:=by rw[← hW];exact Bx.new w 66 _
 rw[hW]at hb
 have HC:=Lib.hid (rident_any tx W hmax)
 have d3:=hB.cell 3
 simp only[List.getElem?_cons_zero,List.getElem?_cons_succ]at d3
 have HE:=Lib.hid (show txB 7 tx.data.toList=idB tx.data.toList by unfold txB;simp)
 generalize idB tx.data.toList=v at *
 go_enter Tryz.func99,Tryz.ntmps99
 go_wp2_with (go_at_call 115;refine HC.out.mono ?_)
 rintro e w1 ⟨rfl,hb1⟩
 have hB1:=hB.below hb1 hB.lt
 clear d3
 have d0:=hB1.cell 0
 have d3:=hB1.cell 3
 simp only[List.getElem?_cons_zero,List.getElem?_cons_succ]at d0 d3
 go_wp2
 go_ret
 exact⟨ret_bool HE.out.symm,bt hb hb1⟩
set_option maxRecDepth 100000 in
set_option maxHeartbeats 1500000 in
theorem tx_8 (n pl:Int)(tx:ByteArray)(K:Option Addr)(m c:Nat)(w:World)(hmax:tx.size≤281474976710656):Calls Tryz.prog 99 #[.agg #[.int .i64 8,.int .i64 n,.int .i64 pl,.string tx,.slice K m c]] w (BPost (txB 8 tx.data.toList) w):=by
 have hb:Below w.heap.size w (w.alloc (.cells #[.int .i64 8,.int .i64 n,.int .i64 pl,.string tx,.slice K m c] 66)):=heap1 _ _
 obtain⟨W,hW⟩:∃W,w.alloc (.cells #[.int .i64 8,.int .i64 n,.int .i64 pl,.string tx,.slice K m c] 66)=W:=⟨_,rfl⟩
 have hB:Bx W w.heap.size 66 [.int .i64 8,.int .i64 n,.int .i64 pl,.string tx,.slice K m c]:=by rw[← hW];exact Bx.new w 66 _
 rw[hW]at hb
 have HC:=Lib.hid (rident_any tx W hmax)
 have d3:=hB.cell 3
 simp only[List.getElem?_cons_zero,List.getElem?_cons_succ]at d3
 have HE:=Lib.hid (show txB 8 tx.data.toList=idB tx.data.toList by unfold txB;simp)
 generalize idB tx.data.toList=v at *
 go_enter Tryz.func99,Tryz.ntmps99
 go_wp2_with (go_at_call 115;refine HC.out.mono ?_)
 rintro e w1 ⟨rfl,hb1⟩
 have hB1:=hB.below hb1 hB.lt
 clear d3
 have d0:=hB1.cell 0
 have d3:=hB1.cell 3
 simp only[List.getElem?_cons_zero,List.getElem?_cons_succ]at d0 d3
 go_wp2
 go_ret
 exact⟨ret_bool HE.out.symm,bt hb hb1⟩
set_option maxRecDepth 100000 in
set_option maxHeartbeats 1500000 in
theorem tx_9 (n pl:Int)(tx:ByteArray)(K:Option Addr)(m c:Nat)(w:World)(hmax:tx.size≤281474976710656):Calls Tryz.prog 99 #[.agg #[.int .i64 9,.int .i64 n,.int .i64 pl,.string tx,.slice K m c]] w (BPost (txB 9 tx.data.toList) w):=by
 have hb:Below w.heap.size w (w.alloc (.cells #[.int .i64 9,.int .i64 n,.int .i64 pl,.string tx,.slice K m c] 66)):=heap1 _ _
 obtain⟨W,hW⟩:∃W,w.alloc (.cells #[.int .i64 9,.int .i64 n,.int .i64 pl,.string tx,.slice K m c] 66)=W:=⟨_,rfl⟩
 have hB:Bx W w.heap.size 66 [.int .i64 9,.int .i64 n,.int .i64 pl,.string tx,.slice K m c]:=by rw[← hW];exact Bx.new w 66 _
 rw[hW]at hb
 have HC:=Lib.hid (rident_any tx W hmax)
 have d3:=hB.cell 3
 simp only[List.getElem?_cons_zero,List.getElem?_cons_succ]at d3
 have HE:=Lib.hid (show txB 9 tx.data.toList=idB tx.data.toList by unfold txB;simp)
 generalize idB tx.data.toList=v at *
 go_enter Tryz.func99,Tryz.ntmps99
 go_wp2_with (go_at_call 115;refine HC.out.mono ?_)
 rintro e w1 ⟨rfl,hb1⟩
 have hB1:=hB.below hb1 hB.lt
 clear d3
 have d0:=hB1.cell 0
 have d3:=hB1.cell 3
 simp only[List.getElem?_cons_zero,List.getElem?_cons_succ]at d0 d3
 go_wp2
 go_ret
 exact⟨ret_bool HE.out.symm,bt hb hb1⟩
set_option maxRecDepth 100000 in
set_option maxHeartbeats 1500000 in
theorem tx_16 (n pl:Int)(tx:ByteArray)(K:Option Addr)(m c:Nat)(w:World)(hmax:tx.size≤281474976710656):Calls Tryz.prog 99 #[.agg #[.int .i64 16,.int .i64 n,.int .i64 pl,.string tx,.slice K m c]] w (BPost (txB 16 tx.data.toList) w):=by
 have hb:Below w.heap.size w (w.alloc (.cells #[.int .i64 16,.int .i64 n,.int .i64 pl,.string tx,.slice K m c] 66)):=heap1 _ _
 obtain⟨W,hW⟩:∃W,w.alloc (.cells #[.int .i64 16,.int .i64 n,.int .i64 pl,.string tx,.slice K m c] 66)=W:=⟨_,rfl⟩
 have hB:Bx W w.heap.size 66 [.int .i64 16,.int .i64 n,.int .i64 pl,.string tx,.slice K m c]:=by rw[← hW];exact Bx.new w 66 _
 rw[hW]at hb
 have HC:=Lib.hid (rident_any tx W hmax)
 have d3:=hB.cell 3
 simp only[List.getElem?_cons_zero,List.getElem?_cons_succ]at d3
 have HE:=Lib.hid (show txB 16 tx.data.toList=idB tx.data.toList by unfold txB;simp)
 generalize idB tx.data.toList=v at *
 go_enter Tryz.func99,Tryz.ntmps99
 go_wp2_with (go_at_call 115;refine HC.out.mono ?_)
 rintro e w1 ⟨rfl,hb1⟩
 have hB1:=hB.below hb1 hB.lt
 clear d3
 have d0:=hB1.cell 0
 have d3:=hB1.cell 3
 simp only[List.getElem?_cons_zero,List.getElem?_cons_succ]at d0 d3
 go_wp2
 go_ret
 exact⟨ret_bool HE.out.symm,bt hb hb1⟩
set_option maxRecDepth 100000 in
set_option maxHeartbeats 1500000 in
theorem tx_17 (n pl:Int)(tx:ByteArray)(K:Option Addr)(m c:Nat)(w:World)(hmax:tx.size≤281474976710656):Calls Tryz.prog 99 #[.agg #[.int .i64 17,.int .i64 n,.int .i64 pl,.string tx,.slice K m c]] w (BPost (txB 17 tx.data.toList) w):=by
 have hb:Below w.heap.size w (w.alloc (.cells #[.int .i64 17,.int .i64 n,.int .i64 pl,.string tx,.slice K m c] 66)):=heap1 _ _
 obtain⟨W,hW⟩:∃W,w.alloc (.cells #[.int .i64 17,.int .i64 n,.int .i64 pl,.string tx,.slice K m c] 66)=W:=⟨_,rfl⟩
 have hB:Bx W w.heap.size 66 [.int .i64 17,.int .i64 n,.int .i64 pl,.string tx,.slice K m c]:=by rw[← hW];exact Bx.new w 66 _
 rw[hW]at hb
 have HC:=Lib.hid (rident_any tx W hmax)
 have d3:=hB.cell 3
 simp only[List.getElem?_cons_zero,List.getElem?_cons_succ]at d3
 have HE:=Lib.hid (show txB 17 tx.data.toList=idB tx.data.toList by unfold txB;simp)
 generalize idB tx.data.toList=v at *
 go_enter Tryz.func99,Tryz.ntmps99
 go_wp2_with (go_at_call 115;refine HC.out.mono ?_)
 rintro e w1 ⟨rfl,hb1⟩
 have hB1:=hB.below hb1 hB.lt
 clear d3
 have d0:=hB1.cell 0
 have d3:=hB1.cell 3
 simp only[List.getElem?_cons_zero,List.getElem?_cons_succ]at d0 d3
 go_wp2
 go_ret
 exact⟨ret_bool HE.out.symm,bt hb hb1⟩
set_option maxRecDepth 100000 in
set_option maxHeartbeats 1500000 in
theorem tx_18 (n pl:Int)(tx:ByteArray)(K:Option Addr)(m c:Nat)(w:World)(hmax:tx.size≤281474976710656):Calls Tryz.prog 99 #[.agg #[.int .i64 18,.int .i64 n,.int .i64 pl,.string tx,.slice K m c]] w (BPost (txB 18 tx.data.toList) w):=by
 have hb:Below w.heap.size w (w.alloc (.cells #[.int .i64 18,.int .i64 n,.int .i64 pl,.string tx,.slice K m c] 66)):=heap1 _ _
 obtain⟨W,hW⟩:∃W,w.alloc (.cells #[.int .i64 18,.int .i64 n,.int .i64 pl,.string tx,.slice K m c] 66)=W:=⟨_,rfl⟩
 have hB:Bx W w.heap.size 66 [.int .i64 18,.int .i64 n,.int .i64 pl,.string tx,.slice K m c]:=by rw[← hW];exact Bx.new w 66 _
 rw[hW]at hb
 have HC:=Lib.hid (rident_any tx W hmax)
 have d3:=hB.cell 3
 simp only[List.getElem?_cons_zero,List.getElem?_cons_succ]at d3
 have HE:=Lib.hid (show txB 18 tx.data.toList=idB tx.data.toList by unfold txB;simp)
 generalize idB tx.data.toList=v at *
 go_enter Tryz.func99,Tryz.ntmps99
 go_wp2_with (go_at_call 115;refine HC.out.mono ?_)
 rintro e w1 ⟨rfl,hb1⟩
 have hB1:=hB.below hb1 hB.lt
 clear d3
 have d0:=hB1.cell 0
 have d3:=hB1.cell 3
 simp only[List.getElem?_cons_zero,List.getElem?_cons_succ]at d0 d3
 go_wp2
 go_ret
 exact⟨ret_bool HE.out.symm,bt hb hb1⟩
set_option maxRecDepth 100000 in
set_option maxHeartbeats 1500000 in
theorem tx_19 (n pl:Int)(tx:ByteArray)(K:Option Addr)(m c:Nat)(w:World)(hmax:tx.size≤281474976710656):Calls Tryz.prog 99 #[.agg #[.int .i64 19,.int .i64 n,.int .i64 pl,.string tx,.slice K m c]] w (BPost (txB 19 tx.data.toList) w):=by
 have hb:Below w.heap.size w (w.alloc (.cells #[.int .i64 19,.int .i64 n,.int .i64 pl,.string tx,.slice K m c] 66)):=heap1 _ _
 obtain⟨W,hW⟩:∃W,w.alloc (.cells #[.int .i64 19,.int .i64 n,.int .i64 pl,.string tx,.slice K m c] 66)=W:=⟨_,rfl⟩
 have hB:Bx W w.heap.size 66 [.int .i64 19,.int .i64 n,.int .i64 pl,.string tx,.slice K m c]:=by rw[← hW];exact Bx.new w 66 _
 rw[hW]at hb
 have HC:=Lib.hid (rident_any tx W hmax)
 have d3:=hB.cell 3
 simp only[List.getElem?_cons_zero,List.getElem?_cons_succ]at d3
 have HE:=Lib.hid (show txB 19 tx.data.toList=idB tx.data.toList by unfold txB;simp)
 generalize idB tx.data.toList=v at *
 go_enter Tryz.func99,Tryz.ntmps99
 go_wp2_with (go_at_call 115;refine HC.out.mono ?_)
 rintro e w1 ⟨rfl,hb1⟩
 have hB1:=hB.below hb1 hB.lt
 clear d3
 have d0:=hB1.cell 0
 have d3:=hB1.cell 3
 simp only[List.getElem?_cons_zero,List.getElem?_cons_succ]at d0 d3
 go_wp2
 go_ret
 exact⟨ret_bool HE.out.symm,bt hb hb1⟩
set_option maxRecDepth 100000 in
set_option maxHeartbeats 1500000 in
theorem tx_22 (n pl:Int)(tx:ByteArray)(K:Option Addr)(m c:Nat)(w:World)(hmax:tx.size≤281474976710656):Calls Tryz.prog 99 #[.agg #[.int .i64 22,.int .i64 n,.int .i64 pl,.string tx,.slice K m c]] w (BPost (txB 22 tx.data.toList) w):=by
 have hb:Below w.heap.size w (w.alloc (.cells #[.int .i64 22,.int .i64 n,.int .i64 pl,.string tx,.slice K m c] 66)):=heap1 _ _
 obtain⟨W,hW⟩:∃W,w.alloc (.cells #[.int .i64 22,.int .i64 n,.int .i64 pl,.string tx,.slice K m c] 66)=W:=⟨_,rfl⟩
 have hB:Bx W w.heap.size 66 [.int .i64 22,.int .i64 n,.int .i64 pl,.string tx,.slice K m c]:=by rw[← hW];exact Bx.new w 66 _
 rw[hW]at hb
 have HC:=Lib.hid (rident_any tx W hmax)
 have d3:=hB.cell 3
 simp only[List.getElem?_cons_zero,List.getElem?_cons_succ]at d3
 have HE:=Lib.hid (show txB 22 tx.data.toList=idB tx.data.toList by unfold txB;simp)
 generalize idB tx.data.toList=v at *
 go_enter Tryz.func99,Tryz.ntmps99
 go_wp2_with (go_at_call 115;refine HC.out.mono ?_)
 rintro e w1 ⟨rfl,hb1⟩
 have hB1:=hB.below hb1 hB.lt
 clear d3
 have d0:=hB1.cell 0
 have d3:=hB1.cell 3
 simp only[List.getElem?_cons_zero,List.getElem?_cons_succ]at d0 d3
 go_wp2
 go_ret
 exact⟨ret_bool HE.out.symm,bt hb hb1⟩
set_option maxRecDepth 100000 in
set_option maxHeartbeats 1500000 in
theorem tx_23 (n pl:Int)(tx:ByteArray)(K:Option Addr)(m c:Nat)(w:World)(hmax:tx.size≤281474976710656):Calls Tryz.prog 99 #[.agg #[.int .i64 23,.int .i64 n,.int .i64 pl,.string tx,.slice K m c]] w (BPost (txB 23 tx.data.toList) w):=by
 have hb:Below w.heap.size w (w.alloc (.cells #[.int .i64 23,.int .i64 n,.int .i64 pl,.string tx,.slice K m c] 66)):=heap1 _ _
 obtain⟨W,hW⟩:∃W,w.alloc (.cells #[.int .i64 23,.int .i64 n,.int .i64 pl,.string tx,.slice K m c] 66)=W:=⟨_,rfl⟩
 have hB:Bx W w.heap.size 66 [.int .i64 23,.int .i64 n,.int .i64 pl,.string tx,.slice K m c]:=by rw[← hW];exact Bx.new w 66 _
 rw[hW]at hb
 have HC:=Lib.hid (rident_any tx W hmax)
 have d3:=hB.cell 3
 simp only[List.getElem?_cons_zero,List.getElem?_cons_succ]at d3
 have HE:=Lib.hid (show txB 23 tx.data.toList=idB tx.data.toList by unfold txB;simp)
 generalize idB tx.data.toList=v at *
 go_enter Tryz.func99,Tryz.ntmps99
 go_wp2_with (go_at_call 115;refine HC.out.mono ?_)
 rintro e w1 ⟨rfl,hb1⟩
 have hB1:=hB.below hb1 hB.lt
 clear d3
 have d0:=hB1.cell 0
 have d3:=hB1.cell 3
 simp only[List.getElem?_cons_zero,List.getElem?_cons_succ]at d0 d3
 go_wp2
 go_ret
 exact⟨ret_bool HE.out.symm,bt hb hb1⟩
set_option maxRecDepth 100000 in
set_option maxHeartbeats 1500000 in
theorem tx_24 (n pl:Int)(tx:ByteArray)(K:Option Addr)(m c:Nat)(w:World)(hmax:tx.size≤281474976710656):Calls Tryz.prog 99 #[.agg #[.int .i64 24,.int .i64 n,.int .i64 pl,.string tx,.slice K m c]] w (BPost (txB 24 tx.data.toList) w):=by
 have hb:Below w.heap.size w (w.alloc (.cells #[.int .i64 24,.int .i64 n,.int .i64 pl,.string tx,.slice K m c] 66)):=heap1 _ _
 obtain⟨W,hW⟩:∃W,w.alloc (.cells #[.int .i64 24,.int .i64 n,.int .i64 pl,.string tx,.slice K m c] 66)=W:=⟨_,rfl⟩
 have hB:Bx W w.heap.size 66 [.int .i64 24,.int .i64 n,.int .i64 pl,.string tx,.slice K m c]:=by rw[← hW];exact Bx.new w 66 _
 rw[hW]at hb
 have HC:=Lib.hid (rident_any tx W hmax)
 have d3:=hB.cell 3
 simp only[List.getElem?_cons_zero,List.getElem?_cons_succ]at d3
 have HE:=Lib.hid (show txB 24 tx.data.toList=idB tx.data.toList by unfold txB;simp)
 generalize idB tx.data.toList=v at *
 go_enter Tryz.func99,Tryz.ntmps99
 go_wp2_with (go_at_call 115;refine HC.out.mono ?_)
 rintro e w1 ⟨rfl,hb1⟩
 have hB1:=hB.below hb1 hB.lt
 clear d3
 have d0:=hB1.cell 0
 have d3:=hB1.cell 3
 simp only[List.getElem?_cons_zero,List.getElem?_cons_succ]at d0 d3
 go_wp2
 go_ret
 exact⟨ret_bool HE.out.symm,bt hb hb1⟩
set_option maxRecDepth 100000 in
set_option maxHeartbeats 1500000 in
theorem tx_25 (n pl:Int)(tx:ByteArray)(K:Option Addr)(m c:Nat)(w:World)(hmax:tx.size≤281474976710656):Calls Tryz.prog 99 #[.agg #[.int .i64 25,.int .i64 n,.int .i64 pl,.string tx,.slice K m c]] w (BPost (txB 25 tx.data.toList) w):=by
 have hb:Below w.heap.size w (w.alloc (.cells #[.int .i64 25,.int .i64 n,.int .i64 pl,.string tx,.slice K m c] 66)):=heap1 _ _
 obtain⟨W,hW⟩:∃W,w.alloc (.cells #[.int .i64 25,.int .i64 n,.int .i64 pl,.string tx,.slice K m c] 66)=W:=⟨_,rfl⟩
 have hB:Bx W w.heap.size 66 [.int .i64 25,.int .i64 n,.int .i64 pl,.string tx,.slice K m c]:=by rw[← hW];exact Bx.new w 66 _
 rw[hW]at hb
 have HC:=Lib.hid (rident_any tx W hmax)
 have d3:=hB.cell 3
 simp only[List.getElem?_cons_zero,List.getElem?_cons_succ]at d3
 have HE:=Lib.hid (show txB 25 tx.data.toList=idB tx.data.toList by unfold txB;simp)
 generalize idB tx.data.toList=v at *
 go_enter Tryz.func99,Tryz.ntmps99
 go_wp2_with (go_at_call 115;refine HC.out.mono ?_)
 rintro e w1 ⟨rfl,hb1⟩
 have hB1:=hB.below hb1 hB.lt
 clear d3
 have d0:=hB1.cell 0
 have d3:=hB1.cell 3
 simp only[List.getElem?_cons_zero,List.getElem?_cons_succ]at d0 d3
 go_wp2
 go_ret
 exact⟨ret_bool HE.out.symm,bt hb hb1⟩
set_option maxRecDepth 100000 in
set_option maxHeartbeats 1500000 in
theorem tx_13 (n pl:Int)(tx:ByteArray)(K:Option Addr)(m c:Nat)(w:World)(hmax:tx.size≤281474976710656):Calls Tryz.prog 99 #[.agg #[.int .i64 13,.int .i64 n,.int .i64 pl,.string tx,.slice K m c]] w (BPost (txB 13 tx.data.toList) w):=by
 have hb:Below w.heap.size w (w.alloc (.cells #[.int .i64 13,.int .i64 n,.int .i64 pl,.string tx,.slice K m c] 66)):=heap1 _ _
 obtain⟨W,hW⟩:∃W,w.alloc (.cells #[.int .i64 13,.int .i64 n,.int .i64 pl,.string tx,.slice K m c] 66)=W:=⟨_,rfl⟩
 have hB:Bx W w.heap.size 66 [.int .i64 13,.int .i64 n,.int .i64 pl,.string tx,.slice K m c]:=by rw[← hW];exact Bx.new w 66 _
 rw[hW]at hb
 have HC:=Lib.hid (rident_any tx W hmax)
 have d3:=hB.cell 3
 simp only[List.getElem?_cons_zero,List.getElem?_cons_succ]at d3
 cases hv:idB tx.data.toList with
 |true=>
  rw[hv]at HC
  have HE:=Lib.hid (show txB 13 tx.data.toList=true by unfold txB;simp[hv])
  clear hv
  go_enter Tryz.func99,Tryz.ntmps99
  go_wp2_with (go_at_call 115;refine HC.out.mono ?_)
  rintro e w1 ⟨rfl,hb1⟩
  have hB1:=hB.below hb1 hB.lt
  clear d3
  have d0:=hB1.cell 0
  have d3:=hB1.cell 3
  simp only[List.getElem?_cons_zero,List.getElem?_cons_succ]at d0 d3
  go_wp2
  go_ret
  exact⟨ret_bool HE.out.symm,bt hb hb1⟩
 |false=>
  rw[hv]at HC
  by_cases g:tx.data.toList=[]
  ·have q:(tx.toList==[])=true:=by rw[ByteArray.toList_eq];exact beq_iff_eq.2 g
   have HE:=Lib.hid (show txB 13 tx.data.toList=true by unfold txB;simp[g])
   clear hv g
   go_enter Tryz.func99,Tryz.ntmps99
   go_wp2_with (go_at_call 115;refine HC.out.mono ?_)
   rintro e w1 ⟨rfl,hb1⟩
   have hB1:=hB.below hb1 hB.lt
   clear d3
   have d0:=hB1.cell 0
   have d3:=hB1.cell 3
   simp only[List.getElem?_cons_zero,List.getElem?_cons_succ]at d0 d3
   go_wp2
   go_ret
   exact⟨ret_bool HE.out.symm,bt hb hb1⟩
  ·have q:(tx.toList==[])=false:=by rw[ByteArray.toList_eq];exact beq_eq_false_iff_ne.2 g
   have HE:=Lib.hid (show txB 13 tx.data.toList=false by generalize tx.data.toList=L at hv g ⊢;unfold txB;simp[hv,g])
   clear hv g
   go_enter Tryz.func99,Tryz.ntmps99
   go_wp2_with (go_at_call 115;refine HC.out.mono ?_)
   rintro e w1 ⟨rfl,hb1⟩
   have hB1:=hB.below hb1 hB.lt
   clear d3
   have d0:=hB1.cell 0
   have d3:=hB1.cell 3
   simp only[List.getElem?_cons_zero,List.getElem?_cons_succ]at d0 d3
   go_wp2
   go_ret
   exact⟨ret_bool HE.out.symm,bt hb hb1⟩
set_option maxRecDepth 100000 in
set_option maxHeartbeats 1500000 in
theorem tx_26 (n pl:Int)(tx:ByteArray)(K:Option Addr)(m c:Nat)(w:World)(hmax:tx.size≤281474976710656):Calls Tryz.prog 99 #[.agg #[.int .i64 26,.int .i64 n,.int .i64 pl,.string tx,.slice K m c]] w (BPost (txB 26 tx.data.toList) w):=by
 have hb:Below w.heap.size w (w.alloc (.cells #[.int .i64 26,.int .i64 n,.int .i64 pl,.string tx,.slice K m c] 66)):=heap1 _ _
 obtain⟨W,hW⟩:∃W,w.alloc (.cells #[.int .i64 26,.int .i64 n,.int .i64 pl,.string tx,.slice K m c] 66)=W:=⟨_,rfl⟩
 have hB:Bx W w.heap.size 66 [.int .i64 26,.int .i64 n,.int .i64 pl,.string tx,.slice K m c]:=by rw[← hW];exact Bx.new w 66 _
 rw[hW]at hb
 have HC:=Lib.hid (rident_any tx W hmax)
 have d3:=hB.cell 3
 simp only[List.getElem?_cons_zero,List.getElem?_cons_succ]at d3
 by_cases g:tx.data.toList=[45]
 ·have q:(tx.toList==[45])=true:=by rw[ByteArray.toList_eq];exact beq_iff_eq.2 g
  have HE:=Lib.hid (show txB 26 tx.data.toList=true by unfold txB;simp[g])
  generalize idB tx.data.toList=v at *
  clear g
  go_enter Tryz.func99,Tryz.ntmps99
  go_wp2_with (go_at_call 115;refine HC.out.mono ?_)
  rintro e w1 ⟨rfl,hb1⟩
  have hB1:=hB.below hb1 hB.lt
  clear d3
  have d0:=hB1.cell 0
  have d3:=hB1.cell 3
  simp only[List.getElem?_cons_zero,List.getElem?_cons_succ]at d0 d3
  go_wp2
  go_ret
  exact⟨ret_bool HE.out.symm,bt hb hb1⟩
 ·have q:(tx.toList==[45])=false:=by rw[ByteArray.toList_eq];exact beq_eq_false_iff_ne.2 g
  by_cases g2:tx.data.toList=[33]
  ·have q2:(tx.toList==[33])=true:=by rw[ByteArray.toList_eq];exact beq_iff_eq.2 g2
   have HE:=Lib.hid (show txB 26 tx.data.toList=true by unfold txB;simp[g2])
   generalize idB tx.data.toList=v at *
   clear g g2
   go_enter Tryz.func99,Tryz.ntmps99
   go_wp2_with (go_at_call 115;refine HC.out.mono ?_)
   rintro e w1 ⟨rfl,hb1⟩
   have hB1:=hB.below hb1 hB.lt
   clear d3
   have d0:=hB1.cell 0
   have d3:=hB1.cell 3
   simp only[List.getElem?_cons_zero,List.getElem?_cons_succ]at d0 d3
   go_wp2
   go_ret
   exact⟨ret_bool HE.out.symm,bt hb hb1⟩
  ·have q2:(tx.toList==[33])=false:=by rw[ByteArray.toList_eq];exact beq_eq_false_iff_ne.2 g2
   have HE:=Lib.hid (show txB 26 tx.data.toList=false by unfold txB;simp[g,g2])
   generalize idB tx.data.toList=v at *
   clear g g2
   go_enter Tryz.func99,Tryz.ntmps99
   go_wp2_with (go_at_call 115;refine HC.out.mono ?_)
   rintro e w1 ⟨rfl,hb1⟩
   have hB1:=hB.below hb1 hB.lt
   clear d3
   have d0:=hB1.cell 0
   have d3:=hB1.cell 3
   simp only[List.getElem?_cons_zero,List.getElem?_cons_succ]at d0 d3
   go_wp2
   go_ret
   exact⟨ret_bool HE.out.symm,bt hb hb1⟩
set_option maxRecDepth 100000 in
set_option maxHeartbeats 1500000 in
theorem tx_27 (n pl:Int)(tx:ByteArray)(K:Option Addr)(m c:Nat)(w:World)(hmax:tx.size≤281474976710656):Calls Tryz.prog 99 #[.agg #[.int .i64 27,.int .i64 n,.int .i64 pl,.string tx,.slice K m c]] w (BPost (txB 27 tx.data.toList) w):=by
 have hb:Below w.heap.size w (w.alloc (.cells #[.int .i64 27,.int .i64 n,.int .i64 pl,.string tx,.slice K m c] 66)):=heap1 _ _
 obtain⟨W,hW⟩:∃W,w.alloc (.cells #[.int .i64 27,.int .i64 n,.int .i64 pl,.string tx,.slice K m c] 66)=W:=⟨_,rfl⟩
 have hB:Bx W w.heap.size 66 [.int .i64 27,.int .i64 n,.int .i64 pl,.string tx,.slice K m c]:=by rw[← hW];exact Bx.new w 66 _
 rw[hW]at hb
 have HC:=Lib.hid (rident_any tx W hmax)
 have d3:=hB.cell 3
 simp only[List.getElem?_cons_zero,List.getElem?_cons_succ]at d3
 have HE:=Lib.hid (show txB 27 tx.data.toList=sgB tx.data.toList by unfold txB;simp)
 generalize idB tx.data.toList=v0 at *
 go_enter Tryz.func99,Tryz.ntmps99
 go_wp2_with (go_at_call 115;refine HC.out.mono ?_)
 rintro e w1 ⟨rfl,hb1⟩
 have hB1:=hB.below hb1 hB.lt
 clear d3
 have d0:=hB1.cell 0
 have d3:=hB1.cell 3
 simp only[List.getElem?_cons_zero,List.getElem?_cons_succ]at d0 d3
 have HG:=Lib.hid (signed_any tx w1)
 generalize sgB tx.data.toList=v at *
 go_wp2_with (go_at_call 116;refine HG.out.mono ?_;rintro e w2 ⟨rfl,hb2⟩)
 go_ret
 exact⟨ret_bool HE.out.symm,bt (bt hb hb1) hb2⟩
set_option maxRecDepth 100000 in
set_option maxHeartbeats 1500000 in
theorem tx_no (kd n pl:Int)(tx:ByteArray)(K:Option Addr)(m c:Nat)(w:World)(hmax:tx.size≤281474976710656)(g2:¬kd=2)(g3:¬kd=3)(g4:¬kd=4)(g5:¬kd=5)(g7:¬kd=7)(g8:¬kd=8)(g9:¬kd=9)(g16:¬kd=16)(g17:¬kd=17)(g18:¬kd=18)(g19:¬kd=19)(g22:¬kd=22)(g23:¬kd=23)(g24:¬kd=24)(g25:¬kd=25)(g13:¬kd=13)(g26:¬kd=26)(g27:¬kd=27):Calls Tryz.prog 99 #[.agg #[.int .i64 kd,.int .i64 n,.int .i64 pl,.string tx,.slice K m c]] w (BPost (txB kd tx.data.toList) w):=by
 have hb:Below w.heap.size w (w.alloc (.cells #[.int .i64 kd,.int .i64 n,.int .i64 pl,.string tx,.slice K m c] 66)):=heap1 _ _
 obtain⟨W,hW⟩:∃W,w.alloc (.cells #[.int .i64 kd,.int .i64 n,.int .i64 pl,.string tx,.slice K m c] 66)=W:=⟨_,rfl⟩
 have hB:Bx W w.heap.size 66 [.int .i64 kd,.int .i64 n,.int .i64 pl,.string tx,.slice K m c]:=by rw[← hW];exact Bx.new w 66 _
 rw[hW]at hb
 have HC:=Lib.hid (rident_any tx W hmax)
 have d3:=hB.cell 3
 simp only[List.getElem?_cons_zero,List.getElem?_cons_succ]at d3
 have k2:(kd==2)=false:=by simp[g2]
 have k3:(kd==3)=false:=by simp[g3]
 have k4:(kd==4)=false:=by simp[g4]
 have k5:(kd==5)=false:=by simp[g5]
 have k7:(kd==7)=false:=by simp[g7]
 have k8:(kd==8)=false:=by simp[g8]
 have k9:(kd==9)=false:=by simp[g9]
 have k16:(kd==16)=false:=by simp[g16]
 have k17:(kd==17)=false:=by simp[g17]
 have k18:(kd==18)=false:=by simp[g18]
 have k19:(kd==19)=false:=by simp[g19]
 have k22:(kd==22)=false:=by simp[g22]
 have k23:(kd==23)=false:=by simp[g23]
 have k24:(kd==24)=false:=by simp[g24]
 have k25:(kd==25)=false:=by simp[g25]
 have k13:(kd==13)=false:=by simp[g13]
 have k26:(kd==26)=false:=by simp[g26]
 have k27:(kd==27)=false:=by simp[g27]
 by_cases g:tx.data.toList=[]
 ·have q:(tx.toList==[])=true:=by rw[ByteArray.toList_eq];exact beq_iff_eq.2 g
  have HE:=Lib.hid (show txB kd tx.data.toList=true by unfold txB;simp[g,g2,g3,g4,g5,g7,g8,g9,g16,g17,g18,g19,g22,g23,g24,g25,g13,g26,g27])
  generalize idB tx.data.toList=v at *
  clear g
  go_enter Tryz.func99,Tryz.ntmps99
  go_wp2_with (go_at_call 115;refine HC.out.mono ?_)
  rintro e w1 ⟨rfl,hb1⟩
  have hB1:=hB.below hb1 hB.lt
  clear d3
  have d0:=hB1.cell 0
  have d3:=hB1.cell 3
  simp only[List.getElem?_cons_zero,List.getElem?_cons_succ]at d0 d3
  go_wp2
  go_ret
  exact⟨ret_bool HE.out.symm,bt hb hb1⟩
 ·have q:(tx.toList==[])=false:=by rw[ByteArray.toList_eq];exact beq_eq_false_iff_ne.2 g
  have HE:=Lib.hid (show txB kd tx.data.toList=false by generalize tx.data.toList=L at g ⊢;unfold txB;simp[g,g2,g3,g4,g5,g7,g8,g9,g16,g17,g18,g19,g22,g23,g24,g25,g13,g26,g27])
  generalize idB tx.data.toList=v at *
  clear g
  go_enter Tryz.func99,Tryz.ntmps99
  go_wp2_with (go_at_call 115;refine HC.out.mono ?_)
  rintro e w1 ⟨rfl,hb1⟩
  have hB1:=hB.below hb1 hB.lt
  clear d3
  have d0:=hB1.cell 0
  have d3:=hB1.cell 3
  simp only[List.getElem?_cons_zero,List.getElem?_cons_succ]at d0 d3
  go_wp2
  go_ret
  exact⟨ret_bool HE.out.symm,bt hb hb1⟩
theorem texts_any (kd n pl:Int)(tx:ByteArray)(K:Option Addr)(m c:Nat)(w:World)(hmax:tx.size≤281474976710656):Calls Tryz.prog 99 #[.agg #[.int .i64 kd,.int .i64 n,.int .i64 pl,.string tx,.slice K m c]] w (BPost (txB kd tx.data.toList) w):=by
 by_cases g2:kd=2
 ·subst g2;exact tx_2 n pl tx K m c w hmax
 by_cases g3:kd=3
 ·subst g3;exact tx_3 n pl tx K m c w hmax
 by_cases g4:kd=4
 ·subst g4;exact tx_4 n pl tx K m c w hmax
 by_cases g5:kd=5
 ·subst g5;exact tx_5 n pl tx K m c w hmax
 by_cases g7:kd=7
 ·subst g7;exact tx_7 n pl tx K m c w hmax
 by_cases g8:kd=8
 ·subst g8;exact tx_8 n pl tx K m c w hmax
 by_cases g9:kd=9
 ·subst g9;exact tx_9 n pl tx K m c w hmax
 by_cases g16:kd=16
 ·subst g16;exact tx_16 n pl tx K m c w hmax
 by_cases g17:kd=17
 ·subst g17;exact tx_17 n pl tx K m c w hmax
 by_cases g18:kd=18
 ·subst g18;exact tx_18 n pl tx K m c w hmax
 by_cases g19:kd=19
 ·subst g19;exact tx_19 n pl tx K m c w hmax
 by_cases g22:kd=22
 ·subst g22;exact tx_22 n pl tx K m c w hmax
 by_cases g23:kd=23
 ·subst g23;exact tx_23 n pl tx K m c w hmax
 by_cases g24:kd=24
 ·subst g24;exact tx_24 n pl tx K m c w hmax
 by_cases g25:kd=25
 ·subst g25;exact tx_25 n pl tx K m c w hmax
 by_cases g13:kd=13
 ·subst g13;exact tx_13 n pl tx K m c w hmax
 by_cases g26:kd=26
 ·subst g26;exact tx_26 n pl tx K m c w hmax
 by_cases g27:kd=27
 ·subst g27;exact tx_27 n pl tx K m c w hmax
 exact tx_no kd n pl tx K m c w hmax g2 g3 g4 g5 g7 g8 g9 g16 g17 g18 g19 g22 g23 g24 g25 g13 g26 g27
theorem own_cap {base n size:Nat}{e:TypeId}{A:Option Addr}{c:Nat}{ls:List Value}{w:World}(h:w.ownsRow base e size (.slice A n c) n ls):n≤c:=by
 rcases h.2 with⟨e1,e2⟩ |⟨g,cap,cur,e1,_,_,h3,_⟩
 ·omega
 ·cases e1;exact h3
theorem below_drew1 (w:World):Below w.heap.size w w.drew:=⟨rfl,rfl,rfl,Nat.le_refl _,fun _ _=>rfl⟩
section
variable {Q:Exit→Act→World→Prop} {a:Act} {w:World} {o:Oper}
theorem build_wp {K:Act→World→Prop}{x:Operand}{kk:Int}(ho:o.op = .buildSlice 64 1 #[(0,x)])(hx:a.eval x = .int .i64 kk)(h:K (a.put o.dst (.slice (some ⟨w.heap.size,0,none⟩) 1 1)) (w.alloc (.cells #[.int .i64 kk] 3))):o.wp Tryz.prog a w K Q:=by
 unfold Oper.wp execOp
 simp only[ho,List.map_toArray,List.map_cons,List.map_nil,hx]
 simp[go_sem]
 exact h
end
set_option maxRecDepth 100000 in
set_option maxHeartbeats 1500000 in
theorem rshaped_any (A:Option Addr)(c n:Nat)(l:List Nd)(r:Int)(w:World)(hN:Nds w A l)(hn:n=l.length)(hk:∀x ∈ l,x.ks.length≤4000)(hl:n≤4000)(ht:∀x ∈ l,x.tx.size≤281474976710656)(hR:∀x ∈ l,∀k ∈ x.ks,∃m:Nat,k=m∧m<l.length):Calls Tryz.prog 72 #[.agg #[.slice A n c,.int .i64 r]] w (BPost (shB l) w):=by
 obtain⟨j0,ji,jz0,jz1,jz2⟩:=info_parts info3
 have e0:∀(w':World) (o:Obj),(w'.alloc o).heap.size=w'.heap.size+1:=fun w' o=>World.size_alloc w' o
 have HN:=Lib.hid hN
 have HL:=Lib.hid hn
 have HK:=Lib.hid hk
 have HT:=Lib.hid ht
 have HR:=Lib.hid hR
 clear hN hn hk ht hR
 go_enter Tryz.func72,Tryz.ntmps72
 go_wp2
 go_loopw [3] (fun i wr=>∃p:Nat,p≤n∧i = .int .i64 (p:Int)∧(l.take p).all (ndB l)=true∧Bx wr w.heap.size 24 [.slice A n c,.int .i64 r]∧Below w.heap.size w wr) (fun i _=>n-(intOf i).toNat)
 case atStart=>exact⟨0,Nat.zero_le _,rfl,rfl,Bx.new w 24 _,heap1 _ _⟩
 case round=>
  obtain⟨p,hp,rfl,hall,hBt,hbw⟩:=hrel
  have HA:=Lib.hid hall
  clear hall
  obtain⟨W1,rfl⟩:∃W1,W1=wr:=⟨_,rfl⟩
  have d0:=hBt.cell 0
  simp only[List.getElem?_cons_zero]at d0
  by_cases hlt:p<n
  ·have hlz:(p:Int)<(n:Int):=by omega
   have hpl:p<l.length:=by rw[← HL.out];exact hlt
   obtain⟨bA,off,rfl,hbl,hc⟩:=HN.out (by omega)
   obtain⟨K,ck,a0,a1,a2,a3,a4,hI⟩:=hc p hpl
   have HKC:=Lib.hid (fun(m:Nat) (hm:m<l.length)=>(hc m hm).elim fun K h=>h.elim fun c h=>h.1)
   have hks:=HK.out _ (List.getElem_mem hpl)
   have hts:=HT.out _ (List.getElem_mem hpl)
   have HRK:=Lib.hid (HR.out _ (List.getElem_mem hpl))
   have HTP:=Lib.hid (show l.take (p+1)=l.take p++[l[p]]from List.take_succ_eq_append_getElem hpl)
   have HNO:=Lib.hid (show ndB l l[p]=false→shB l=false from fun h=>by
    unfold shB;rw[List.all_eq_false];exact⟨l[p],List.getElem_mem _,by simp[h]⟩)
   clear hc
   generalize l[p]=x at *
   obtain⟨xk,xn,xp,xt,ks⟩:=x
   dsimp only at a0 a1 a2 a3 a4 hI hks hts HRK
   have a0:=(hbw.cell (p:=⟨bA,off+p*5,none⟩) hbl).trans a0
   have a1:=(hbw.cell (p:=⟨bA,off+p*5+1,none⟩) hbl).trans a1
   have a2:=(hbw.cell (p:=⟨bA,off+p*5+2,none⟩) hbl).trans a2
   have a3:=(hbw.cell (p:=⟨bA,off+p*5+3,none⟩) hbl).trans a3
   have a4:=(hbw.cell (p:=⟨bA,off+p*5+4,none⟩) hbl).trans a4
   have HI:=Lib.hid hI
   have HBW:=Lib.hid (And.intro hBt hbw)
   have hwz:w.heap.size<W1.heap.size:=hBt.lt
   clear hI hBt hbw
   go_wp2
   obtain⟨kq,hkq⟩:∃kq,kq=ks.map (fun k=>(nth l k.toNat).kd):=⟨_,rfl⟩
   have HKQ:=Lib.hid hkq
   have HND:=Lib.hid (show ndB l ⟨xk,xn,xp,xt,ks⟩=(decide (1≤xk)&&(decide (xk≤27)&&(txB xk xt.data.toList&&(numB xk xn&&kidB xk kq))))by rw[hkq];rfl)
   clear hkq
   obtain⟨W2,hW2⟩:∃W2,W1.alloc (.cells #[.int .i64 xk,.int .i64 xn,.int .i64 xp,.string xt,.slice K ks.length ck] 66)=W2:=⟨_,rfl⟩
   have HW2:=Lib.hid (show Below W1.heap.size W1 W2∧Bx W2 W1.heap.size 66 [.int .i64 xk,.int .i64 xn,.int .i64 xp,.string xt,.slice K ks.length ck]∧W2.heap.size=W1.heap.size+1 by
    rw[← hW2];exact⟨heap1 _ _,Bx.new W1 66 _,e0 _ _⟩)
   rw[hW2]
   clear hW2 a0 a1 a2 a3 a4 d0
   go_loopw [5,6] (fun lv i wr=>∃j:Nat,j≤ks.length∧i = .int .i64 (j:Int)∧wr.ownsRow W2.heap.size 3 1 lv j (iv (kq.take j))∧Below W2.heap.size W2 wr) (fun _ i _=>ks.length-(intOf i).toNat)
   case atStart=>exact⟨0,Nat.zero_le _,rfl,World.ownsRow_nil _ _ _ _,Below.refl _ _⟩
   case round=>
    obtain⟨j,hj,rfl,hol,hbl2⟩:=hrel
    obtain⟨VL,cL,rfl⟩:=own_sliceG hol
    obtain⟨W3,rfl⟩:∃W3,W3=wr:=⟨_,rfl⟩
    obtain⟨hb12,hBX,hsz0⟩:=HW2.out
    have hb13:=bt hb12 hbl2
    have hbw3:=bt HBW.out.2 hb13
    have hBX2:=hBX.below hbl2 hBX.lt
    have hBt3:=HBW.out.1.below hb13 HBW.out.1.lt
    have HSZ:=Lib.hid hsz0
    have hz3:=hbl2.size
    clear hsz0 hb12 hBX hb13
    have x4:=hBX2.cell 4
    have d0:=hBt3.cell 0
    simp only[List.getElem?_cons_zero,List.getElem?_cons_succ]at x4 d0
    by_cases hjl:j<ks.length
    ·have hjz:(j:Int)<(ks.length:Int):=by omega
     obtain⟨bK,oK,rfl,hbK,hcK⟩:=HI.out (by omega)
     obtain⟨m,hm,hml⟩:=HRK.out ks[j] (List.getElem_mem hjl)
     have hb02:=bt HBW.out.2 HW2.out.1
     have t0:=(HBW.out.1.below HW2.out.1 HBW.out.1.lt).cell 0
     have t4:=HW2.out.2.1.cell 4
     simp only[List.getElem?_cons_zero,List.getElem?_cons_succ]at t0 t4
     have hck:=(hb02.cell (p:=⟨bK,oK+j,none⟩) hbK).trans (hcK j hjl)
     rw[hm]at hck
     have hmn:m<n:=by rw[HL.out];exact hml
     have hkc:=(hb02.cell (p:=⟨bA,off+m*5,none⟩) hbl).trans (HKC.out m hml)
     have HTJ:=Lib.hid (show kq.take (j+1)=kq.take j++[l[m].kd] by
      have hjq:j<kq.length:=by rw[HKQ.out,List.length_map];exact hjl
      rw[List.take_succ_eq_append_getElem hjq]
      congr 2
      simp only[HKQ.out,List.getElem_map,hm,Int.toNat_natCast,nth_eq hml])
     clear hcK hm
     generalize l[m].kd=kk at *
     have hzA:w.heap.size<W2.heap.size:=by have:=HSZ.out;omega
     have hzB:W1.heap.size<W2.heap.size:=by have:=HSZ.out;omega
     have hzK:bK<W2.heap.size:=by omega
     have hzN:bA<W2.heap.size:=by omega
     clear d0 hBX2 hBt3 hbw3 hz3
     go_upto_region 9 with(fail)
     clear x4
     refine wp_region_held (S:=fun w'=>Below W2.heap.size W2 w') (by kernel_rfl) ?_
     have hS:Below W2.heap.size W2 { W3 with drawn:=W3.drawn+1 }:=bdrew hbl2
     have hol:=own_belowG (w' := { W3 with drawn:=W3.drawn+1 }) hol (below_drew1 W3)
     clear hbl2
     generalize ({ W3 with drawn:=W3.drawn+1 }:World)=W5 at *
     refine h_pure 0 ({ dst:=some 29,op:=Op.move (Operand.tmp 5),type:=64,pos := "ref.go:244",after := #[],guard:=none }:Oper) (.slice VL j cL) (by kernel_rfl) rfl (by kernel_rfl) (by kernel_rfl) (fun _ _ _ h=>h) rfl (y_move rfl rfl) hS ?_
     simp only[Act.put,List.setIfInBounds_toArray,List.set_cons_zero,List.set_cons_succ]
     refine h_pure 1 ({ dst:=some 30,op:=Op.fieldAddr 24 (Operand.tmp 1) 0,type:=0,pos := "ref.go:244",after := #[],guard:=none }:Oper) (.pointer (some ⟨w.heap.size,0,none⟩)) (by kernel_rfl) rfl (by kernel_rfl) (by kernel_rfl) (fun _ _ _ h=>h) rfl (y_field rfl rfl (run_field30_0 _)) hS ?_
     simp only[Act.put,List.setIfInBounds_toArray,List.set_cons_zero,List.set_cons_succ]
     refine h_pure 2 ({ dst:=some 31,op:=Op.load 22 (Operand.tmp 30),type:=22,pos := "ref.go:244",after := #[{ on:=1,ground:=Ground.data }],guard:=none }:Oper) (.slice (some ⟨bA,off,none⟩) n c) (by kernel_rfl) rfl (by kernel_rfl) (by kernel_rfl) (fun _ _ _ h=>h) rfl (y_load rfl rfl (fun w' h=>run_load28 ((Below.cell h (p:=⟨w.heap.size,0,none⟩) hzA).trans t0))) hS ?_
     simp only[Act.put,List.setIfInBounds_toArray,List.set_cons_zero,List.set_cons_succ]
     refine h_pure 3 ({ dst:=some 32,op:=Op.fieldAddr 66 (Operand.tmp 4) 4,type:=0,pos := "ref.go:244",after := #[],guard:=none }:Oper) (.pointer (some ⟨W1.heap.size,4,none⟩)) (by kernel_rfl) rfl (by kernel_rfl) (by kernel_rfl) (fun _ _ _ h=>h) rfl (y_field rfl rfl (run_field24_4 _ 0)) hS ?_
     simp only[Act.put,List.setIfInBounds_toArray,List.set_cons_zero,List.set_cons_succ]
     refine h_pure 4 ({ dst:=some 33,op:=Op.load 64 (Operand.tmp 32),type:=64,pos := "ref.go:244",after := #[{ on:=3,ground:=Ground.data }],guard:=none }:Oper) (.slice (some ⟨bK,oK,none⟩) ks.length ck) (by kernel_rfl) rfl (by kernel_rfl) (by kernel_rfl) (fun _ _ _ h=>h) rfl (y_load rfl rfl (fun w' h=>run_load22 ((Below.cell h (p:=⟨W1.heap.size,4,none⟩) hzB).trans t4))) hS ?_
     simp only[Act.put,List.setIfInBounds_toArray,List.set_cons_zero,List.set_cons_succ]
     refine h_pure 5 ({ dst:=some 34,op:=Op.move (Operand.tmp 6),type:=3,pos := "ref.go:244",after := #[],guard:=none }:Oper) (.int .i64 (j:Int)) (by kernel_rfl) rfl (by kernel_rfl) (by kernel_rfl) (fun _ _ _ h=>h) rfl (y_move rfl rfl) hS ?_
     simp only[Act.put,List.setIfInBounds_toArray,List.set_cons_zero,List.set_cons_succ]
     refine h_pure 6 ({ dst:=some 35,op:=Op.indexAddr 64 (Operand.tmp 33) (Operand.tmp 34),type:=0,pos := "ref.go:244",after := #[{ on:=4,ground:=Ground.data },{ on:=5,ground:=Ground.data }],guard:=none }:Oper) (.pointer (some ⟨bK,oK+j,none⟩)) (by kernel_rfl) rfl (by kernel_rfl) (by kernel_rfl) (fun _ _ _ h=>h) rfl (y_index rfl rfl rfl (run_index22 _ _ _ _ _ hjl)) hS ?_
     simp only[Act.put,List.setIfInBounds_toArray,List.set_cons_zero,List.set_cons_succ]
     refine h_pure 7 ({ dst:=some 36,op:=Op.load 3 (Operand.tmp 35),type:=3,pos := "ref.go:244",after := #[{ on:=6,ground:=Ground.data }],guard:=none }:Oper) (.int .i64 (m:Int)) (by kernel_rfl) rfl (by kernel_rfl) (by kernel_rfl) (fun _ _ _ h=>h) rfl (y_load rfl rfl (fun w' h=>run_load3 ((Below.cell h (p:=⟨bK,oK+j,none⟩) hzK).trans hck))) hS ?_
     simp only[Act.put,List.setIfInBounds_toArray,List.set_cons_zero,List.set_cons_succ]
     refine h_pure 8 ({ dst:=some 37,op:=Op.indexAddr 22 (Operand.tmp 31) (Operand.tmp 36),type:=0,pos := "ref.go:244",after := #[{ on:=2,ground:=Ground.data },{ on:=7,ground:=Ground.data }],guard:=none }:Oper) (.pointer (some ⟨bA,off+m*5,none⟩)) (by kernel_rfl) rfl (by kernel_rfl) (by kernel_rfl) (fun _ _ _ h=>h) rfl (y_index rfl rfl rfl (run_index28 _ _ _ _ _ hmn)) hS ?_
     simp only[Act.put,List.setIfInBounds_toArray,List.set_cons_zero,List.set_cons_succ]
     refine h_pure 9 ({ dst:=some 38,op:=Op.fieldAddr 66 (Operand.tmp 37) 0,type:=0,pos := "ref.go:244",after := #[{ on:=8,ground:=Ground.data }],guard:=none }:Oper) (.pointer (some ⟨bA,off+m*5,none⟩)) (by kernel_rfl) rfl (by kernel_rfl) (by kernel_rfl) (fun _ _ _ h=>h) rfl (y_field rfl rfl (run_field24_0 _ _)) hS ?_
     simp only[Act.put,List.setIfInBounds_toArray,List.set_cons_zero,List.set_cons_succ]
     refine h_pure 10 ({ dst:=some 39,op:=Op.load 3 (Operand.tmp 38),type:=3,pos := "ref.go:244",after := #[{ on:=9,ground:=Ground.data }],guard:=none }:Oper) (.int .i64 kk) (by kernel_rfl) rfl (by kernel_rfl) (by kernel_rfl) (fun _ _ _ h=>h) rfl (y_load rfl rfl (fun w' h=>run_load3 ((Below.cell h (p:=⟨bA,off+m*5,none⟩) hzN).trans hkc))) hS ?_
     simp only[Act.put,List.setIfInBounds_toArray,List.set_cons_zero,List.set_cons_succ]
     refine h_one 11 ({ dst:=some 40,op:=Op.buildSlice 64 1 #[(0,Operand.tmp 39)],type:=64,pos := "ref.go:244",after := #[{ on:=10,ground:=Ground.data }],guard:=none }:Oper) rfl (by kernel_rfl) rfl ?_
     refine build_wp (o:=({ dst:=some 40,op:=Op.buildSlice 64 1 #[(0,Operand.tmp 39)],type:=64,pos := "ref.go:244",after := #[{ on:=10,ground:=Ground.data }],guard:=none }:Oper)) rfl rfl ?_
     refine⟨hS.alloc hS.size _,?_⟩
     simp only[Act.put,List.setIfInBounds_toArray,List.set_cons_zero,List.set_cons_succ]
     refine h_one 12 ({ dst:=some 41,op:=Op.call { callee:=Callee.builtin Builtin.append,args := #[Operand.tmp 29,Operand.tmp 40],argTypes := #[64,64] },type:=64,pos := "ref.go:244",after := #[{ on:=0,ground:=Ground.data },{ on:=11,ground:=Ground.data }],guard:=none }:Oper) rfl (by kernel_rfl) rfl ?_
     refine wp_append_own (o:=({ dst:=some 41,op:=Op.call { callee:=Callee.builtin Builtin.append,args := #[Operand.tmp 29,Operand.tmp 40],argTypes := #[64,64] },type:=64,pos := "ref.go:244",after := #[{ on:=0,ground:=Ground.data },{ on:=11,ground:=Ground.data }],guard:=none }:Oper)) _ _ _ 64 rfl W2.heap.size 3 j0 (.int .i64 0) 1 8 Tryz.underlying64 ji jz0 jz1 jz2 rfl (by decide) _ _ _ rfl (own_belowG hol (heap1 W5 _)) ⟨W5.heap.size,0,none⟩ 1 1 [.int .i64 kk] rfl rfl (blk_cells W5 [.int .i64 kk] 3) (one1 _) ?c3 ?c4 ?c5 ?_
     case c3=>unfold maxLen;omega
     case c4=>omega
     case c5=>rw[e0];have:=hS.size;omega
     intro v' w4 hown4 hgrow4 _
     have hown5:w4.ownsRow W2.heap.size 3 1 v' (j+1) (iv (kq.take (j+1))):=by rw[HTJ.out,iv_app];exact hown4
     have hb5:Below W2.heap.size W2 w4:=(hS.alloc hS.size _).grown hgrow4 (by rw[e0];have:=hS.size;omega) (fun b hb=>by have:=(hol.lt b hb).1;omega)
     clear hown4 hgrow4 hol
     refine⟨hb5,?_⟩
     simp only[Act.put,List.setIfInBounds_toArray,List.set_cons_zero,List.set_cons_succ]
     refine h_pure 13 ({ dst:=some 5,op:=Op.assign (Operand.tmp 41),type:=64,pos := "ref.go:244",after := #[{ on:=12,ground:=Ground.data },{ on:=12,ground:=Ground.chain },{ on:=0,ground:=Ground.phase },{ on:=1,ground:=Ground.phase },{ on:=2,ground:=Ground.phase },{ on:=3,ground:=Ground.phase },{ on:=4,ground:=Ground.phase },{ on:=5,ground:=Ground.phase },{ on:=6,ground:=Ground.phase },{ on:=7,ground:=Ground.phase },{ on:=8,ground:=Ground.phase },{ on:=9,ground:=Ground.phase },{ on:=10,ground:=Ground.phase },{ on:=11,ground:=Ground.phase },{ on:=12,ground:=Ground.phase }],guard:=none }:Oper) v' (by kernel_rfl) rfl (by kernel_rfl) (by kernel_rfl) (fun _ _ _ h=>h) rfl (y_assign rfl rfl) hb5 ?_
     simp only[Act.put,List.setIfInBounds_toArray,List.set_cons_zero,List.set_cons_succ]
     refine wpAnyH_done (by kernel_rfl) ?_ _
     go_wp2
     go_roundw
     case rel=>exact⟨j+1,by omega,by go_num,hown5,hb5⟩
     case measure=>simp[intOf];omega
    ·obtain rfl:j=ks.length:=by omega
     have hjz:¬(ks.length:Int)<(ks.length:Int):=by omega
     rw[List.take_of_length_le (by rw[HKQ.out,List.length_map];omega)]at hol
     have hcap:=own_cap hol
     obtain⟨KL,cL',eL,hIL,_,_⟩:=own3 (by rw[HKQ.out,List.length_map]) hol
     obtain⟨rfl,rfl⟩:VL=KL∧cL=cL':=by cases eL;exact⟨rfl,rfl⟩
     have HIL:=Lib.hid hIL
     have HC1:=Lib.hid (fun w'=>texts_any xk xn xp xt K ks.length ck w' hts)
     have HC2:=Lib.hid (fun w'=>numbers_any xk xn xp xt K ks.length ck w')
     have HC3:=Lib.hid (fun w' (h:Ints w' VL kq)=>kids_any xk VL ks.length cL kq w' h (by rw[HKQ.out,List.length_map]) hks hcap)
     generalize txB xk xt.data.toList=tB at *
     generalize numB xk xn=nB at *
     generalize kidB xk kq=kB at *
     have b0:=hBX2.cell 0
     have b1:=hBX2.cell 1
     have b2:=hBX2.cell 2
     have b3:=hBX2.cell 3
     simp only[List.getElem?_cons_zero,List.getElem?_cons_succ]at b0 b1 b2 b3
     clear hol eL hIL d0 hbl2
     go_wp2_with (go_at_call 99;refine(HC1.out _).mono ?_)
     rintro e w5 ⟨rfl,hb5⟩
     have hBX5:=hBX2.below hb5 hBX2.lt
     have hBt5:=hBt3.below hb5 hBt3.lt
     have hb35:=bt hbw3 hb5
     have HI5:=Lib.hid (HIL.out.below hb5)
     clear x4 b0 b1 b2 b3 hBX2 hBt3 hbw3 hb5 HIL HC1 hz3
     have b0:=hBX5.cell 0
     have b1:=hBX5.cell 1
     have b2:=hBX5.cell 2
     have b3:=hBX5.cell 3
     have b4:=hBX5.cell 4
     simp only[List.getElem?_cons_zero,List.getElem?_cons_succ]at b0 b1 b2 b3 b4
     go_wp2_with (go_at_call 100;refine(HC2.out _).mono ?_)
     rintro e w6 ⟨rfl,hb6⟩
     have hBX6:=hBX5.below hb6 hBX5.lt
     have hBt6:=hBt5.below hb6 hBt5.lt
     have hb36:=bt hb35 hb6
     have HI6:=Lib.hid (HI5.out.below hb6)
     clear b0 b1 b2 b3 b4 hBX5 hBt5 hb35 hb6 HI5 HC2
     have b0:=hBX6.cell 0
     simp only[List.getElem?_cons_zero]at b0
     go_wp2_with (go_at_call 101;refine(HC3.out _ HI6.out).mono ?_)
     rintro e w7 ⟨rfl,hb7'⟩
     have hBX7:=hBX6.below hb7' hBX6.lt
     have hBt7:=hBt6.below hb7' hBt6.lt
     have hb7:=bt hb36 hb7'
     clear b0 hBX6 hBt6 hb36 hb7' HI6 HC3
     have b0:=hBX7.cell 0
     simp only[List.getElem?_cons_zero]at b0
     by_cases g1:xk<1
     ·have q1:decide (xk<1)=true:=decide_eq_true g1
      have HFALSE:=Lib.hid (HNO.out (by rw[HND.out,decide_eq_false (show¬1≤xk by omega)];rfl))
      go_wp2
      go_ret
      exact⟨ret_bool HFALSE.out.symm,hb7⟩
     ·have q1:decide (xk<1)=false:=decide_eq_false g1
      by_cases g2:27<xk
      ·have q2:decide (27<xk)=true:=decide_eq_true g2
       have HFALSE:=Lib.hid (HNO.out (by rw[HND.out,decide_eq_false (show¬xk≤27 by omega)];simp))
       go_wp2
       go_ret
       exact⟨ret_bool HFALSE.out.symm,hb7⟩
      ·have q2:decide (27<xk)=false:=decide_eq_false g2
       have h1k:1≤xk:=by omega
       have h2k:xk≤27:=by omega
       rw[decide_eq_true h1k,decide_eq_true h2k,Bool.true_and,Bool.true_and]at HND
       clear h1k h2k
       cases tB with
       |false=>
        have HFALSE:=Lib.hid (HNO.out (by rw[HND.out];rfl))
        go_wp2
        go_ret
        exact⟨ret_bool HFALSE.out.symm,hb7⟩
       |true=>
        cases nB with
        |false=>
         have HFALSE:=Lib.hid (HNO.out (by rw[HND.out];rfl))
         go_wp2
         go_ret
         exact⟨ret_bool HFALSE.out.symm,hb7⟩
        |true=>
         cases kB with
         |false=>
          have HFALSE:=Lib.hid (HNO.out (by rw[HND.out];rfl))
          go_wp2
          go_ret
          exact⟨ret_bool HFALSE.out.symm,hb7⟩
         |true=>
          have HYES:=Lib.hid HND.out
          go_wp2
          go_roundw
          case rel=>
           refine⟨p+1,by omega,by go_num,?_,hBt7,hb7⟩
           rw[HTP.out,List.all_append,HA.out]
           simp[HYES.out]
          case measure=>simp[intOf];omega
  ·obtain rfl:p=n:=by omega
   have hlz:¬(p:Int)<(p:Int):=by omega
   have HE:=Lib.hid (show shB l=true by have:=HA.out;rw[HL.out,List.take_length]at this;exact this)
   go_wp2
   go_ret
   exact⟨ret_bool HE.out.symm,hbw⟩
set_option maxRecDepth 100000 in
set_option maxHeartbeats 1500000 in
theorem rright_any (A:Option Addr)(c n:Nat)(l:List Nd)(r:Int)(w:World)(hN:Nds w A l)(hn:n=l.length)(hk:∀x ∈ l,x.ks.length≤4000)(ht:∀x ∈ l,x.tx.size≤281474976710656):Calls Tryz.prog 39 #[.agg #[.slice A n c,.int .i64 r]] w (BPost (rgB l r) w):=by
 have hb:Below w.heap.size w (w.alloc (.cells #[.slice A n c,.int .i64 r] 24)):=heap1 _ _
 obtain⟨W,hW⟩:∃W,w.alloc (.cells #[.slice A n c,.int .i64 r] 24)=W:=⟨_,rfl⟩
 have hB:Bx W w.heap.size 24 [.slice A n c,.int .i64 r]:=by rw[← hW];exact Bx.new w 24 _
 rw[hW]at hb
 have HS:=Lib.hid (rsound_any A c n l r W (hN.below hb) hn hk)
 have d0:=hB.cell 0
 have d1:=hB.cell 1
 simp only[List.getElem?_cons_zero,List.getElem?_cons_succ]at d0 d1
 by_cases h:Snd l r
 ·rw[sndB_true h]at HS
  have HG:=Lib.hid (show rgB l r=(decide (dpt l r≤40)&&(decide ((nth l (l.length-1)).kd=1)&&shB l))by unfold rgB;rw[sndB_true h];rfl)
  have HD:=Lib.hid (fun w' (h':Nds w' A l)=>rdepth_any A c n l r w' h' hn hk)
  have hsn:=snd_iff.1 h
  have hn4:n≤4000:=by rw[hn];exact hsn.1.2.1
  have HSH:=Lib.hid (fun w' (h':Nds w' A l)=>rshaped_any A c n l r w' h' hn hk hn4 ht (fun x hx k hkx=>by
   obtain⟨p,hp,e⟩:=List.getElem_of_mem hx
   have:=hsn.2.1 p hp k (by rw[kidsAt_eq hp,e];exact hkx)
   exact⟨k.toNat,by omega,by omega⟩))
  obtain⟨n',hn'⟩:∃n',n'=n-1:=⟨_,rfl⟩
  have hr:r=(n':Int):=by have:=hsn.1.2.2;have:=hsn.1.1;omega
  have hnn:n'<n:=by have:=hsn.1.1;omega
  have hnl:n'<l.length:=by omega
  have HNK:=Lib.hid (show(nth l (l.length-1)).kd=l[n'].kd by rw[show l.length-1=n' by omega,nth_eq hnl])
  obtain⟨bA,off,rfl,hbA,hcA⟩:=hN (by omega)
  have hkd:=(hcA n' hnl).elim fun K h=>h.elim fun c h=>h.1
  have HN:=Lib.hid hN
  generalize l[n'].kd=kd at *
  generalize dpt l r=dp at *
  generalize shB l=sB at *
  clear hcA hsn hn' h hn hN hk ht hn4 hnl
  subst hr
  go_enter Tryz.func39,Tryz.ntmps39
  go_wp2_with (go_at_call 70;refine HS.out.mono ?_)
  rintro e w1 ⟨rfl,hb1⟩
  clear HS
  have hB1:=hB.below hb1 hB.lt
  have hbw1:=bt hb hb1
  clear d0 d1 hB hb hb1 hW
  have d0:=hB1.cell 0
  have d1:=hB1.cell 1
  simp only[List.getElem?_cons_zero,List.getElem?_cons_succ]at d0 d1
  go_wp2_with (go_at_call 71;refine(HD.out w1 (HN.out.below hbw1)).mono ?_)
  rintro e w2 ⟨rfl,hb2⟩
  have hB2:=hB1.below hb2 hB1.lt
  have hbw2:=bt hbw1 hb2
  clear d0 d1 hB1 hbw1 hb2 HD
  have d0:=hB2.cell 0
  have d1:=hB2.cell 1
  simp only[List.getElem?_cons_zero,List.getElem?_cons_succ]at d0 d1
  have hkc:=(hbw2.cell (p:=⟨bA,off+n'*5,none⟩) hbA).trans hkd
  by_cases g1:dp≤40
  ·have q1:decide ((40:Int)<(dp:Int))=false:=decide_eq_false (by omega)
   by_cases g2:kd=1
   ·subst g2
    have HE:=Lib.hid (show rgB l (n':Int)=sB by rw[HG.out,HNK.out,decide_eq_true g1];rfl)
    clear HG HNK g1
    go_wp2_with (go_at_call 72;refine(HSH.out w2 (HN.out.below hbw2)).mono ?_;rintro e w3 ⟨rfl,hb3⟩)
    go_ret
    exact⟨ret_bool HE.out.symm,bt hbw2 hb3⟩
   ·have q2:(kd != 1)=true:=by simpa using g2
    have HE:=Lib.hid (show rgB l (n':Int)=false by rw[HG.out,HNK.out,decide_eq_false g2];simp)
    clear HG HNK g1 g2
    go_wp2
    go_ret
    exact⟨ret_bool HE.out.symm,hbw2⟩
  ·have q1:decide ((40:Int)<(dp:Int))=true:=decide_eq_true (by omega)
   have HE:=Lib.hid (show rgB l (n':Int)=false by rw[HG.out,decide_eq_false g1];rfl)
   clear HG HNK g1
   go_wp2
   go_ret
   exact⟨ret_bool HE.out.symm,hbw2⟩
 ·rw[sndB_false h]at HS
  have HE:=Lib.hid (show rgB l r=false by unfold rgB;rw[sndB_false h];rfl)
  clear h hN hn hk ht
  go_enter Tryz.func39,Tryz.ntmps39
  go_wp2_with (go_at_call 70;refine HS.out.mono ?_;rintro e w1 ⟨rfl,hb1⟩)
  go_ret
  exact⟨ret_bool HE.out.symm,bt hb hb1⟩
end Go.Proofs.YtignojhijmamhaaGreat.Ty.Tr
