/- PROVED here: parts Yf Rc Yu Yv Yw of the claim. No condition but those in each theorem's own head. -/
import Derived.Test.YteecfjhjllajlaaGreatDoorM23
import Derived.Test.YteecfjhjllajlaaGreatDoorM42
import Derived.Test.YteecfjhjllajlaaGreatDoorM41
import Derived.Test.YteecfjhjllajlaaGreatDoorM40
import Derived.Test.YteecfjhjllajlaaGreatDoorM39
namespace Go.Proofs.YteecfjhjllajlaaGreatDoor
section
open Go
open Tr (idB txB numB kidB expB stmB allB ndB shB nth Snd dpt)
theorem wd_exp {P:Int→Int→Int→List UInt8→List Int→Prop}(hP:∀kd n pl tx l,P kd n pl tx l→kidB kd l=true):∀g:Wd,g.all P→(∀k ∈ g.kds,expB k=true)→g.all fun kd n pl tx l=>expB kd=true∧P kd n pl tx l
 | .nil,_,_=>True.intro
 | .snoc f kd n pl tx ks,h,hk=>by
  have h1:expB kd=true:=hk kd (by simp[Wd.kds])
  have h2:=(kid_exp h1 (hP _ _ _ _ _ h.2.2)).1
  exact⟨wd_exp hP f h.1 fun k hk'=>hk k (by simp[Wd.kds,hk']),wd_exp hP ks h.2.1 h2,h1,h.2.2⟩
structure ExR (nd:List Nd):Prop where
 ok:ExOk (nd.map cvN) ((nd.length:Int)-1)
 pos:1≤nd.length
 few:nd.length≤4000
 kids:∀x ∈ nd.map cvN,x.ks.length≤2
 text:∀x ∈ nd.map cvN,x.tx.size≤20
 num:∀x ∈ nd.map cvN,x.n≤9223372036854775807
theorem expr_right {l:List UInt8}{us:List Tk.Tok}{nd:List Nd}{k:Nat}(hc:Tk.cutR l 0 = .ok us)(h:ansOf exprR l = .good nd k):ExR nd:=by
 rcases(exprR_ok (ts_ok hc)).cases with⟨v,s',q,_⟩ |⟨p',e',q,_,_⟩
 case inr=>rw[ansOf_no hc q]at h;cases h
 rw[ansOf_ok hc q]at h
 split at h
 ·cases h
 split at h
 ·cases h
 rename_i h4 h5
 injection h with h1 h2
 subst h1
 obtain⟨g,hnd,hv,hall,e,hke,hee⟩:=expr_w (tk_facts hc).1 q
 have hall2:=wd_exp (fun kd n pl tx l r=>r.2.2.2.2.1) g hall (fun k hk=>by rw[hke]at hk;rw[List.mem_singleton.1 hk];exact hee)
 have hmem:=Wd.all_mem 0 hall2
 rw[← hnd]at hmem
 have hsn:Snd (s'.nd.map cvN) ((s'.nd.length:Int)-1)∧1≤s'.nd.length:=by
  cases g with
  |nil=>cases hke
  |snoc f kd n pl tx ks=>
   cases f with
   |nil=>
    have:=wd_snd (f :=.nil) (kd:=kd) (n:=n) (pl:=pl) (tx:=tx) (ks:=ks) rfl (by rw[← hnd];omega)
    rw[← hnd]at this
    exact⟨this,by rw[hnd];simp[Wd.fl]⟩
   |snoc f2 kd2 n2 pl2 tx2 ks2=>
    have:=congrArg List.length hke
    simp[Wd.kds]at this
 have hexp:∀x ∈ s'.nd.map cvN,expB x.kd=true:=fun x hx=>by
  obtain⟨y,hy,rfl⟩:=List.mem_map.1 hx
  obtain⟨l',r,_⟩:=hmem y hy
  exact r.1
 refine⟨⟨hsn.1,by omega,hexp,?_⟩,hsn.2,by omega,fun x hx =>?_,fun x hx =>?_,fun x hx =>?_⟩
 ·have:=(wd_sh (P:=fun kd n pl tx l=>expB kd=true∧Pk (us.map cvT) kd n pl tx l) (fun kd n pl tx l r=>⟨r.2.1,r.2.2.1,r.2.2.2.1,r.2.2.2.2.1.1,r.2.2.2.2.2.1⟩) g [] [] hall2).2
  simp only[List.nil_append,List.append_nil,List.length_nil,← hnd]at this
  unfold shB
  rw[List.all_eq_true]
  intro x hx
  obtain⟨y,hy,rfl⟩:=List.mem_map.1 hx
  exact this y hy
 ·obtain⟨y,hy,rfl⟩:=List.mem_map.1 hx
  obtain⟨l',r,hr⟩:=hmem y hy
  have:=(kid_exp r.1 r.2.2.2.2.2.1).2
  show y.ks.length≤2
  omega
 ·obtain⟨y,hy,rfl⟩:=List.mem_map.1 hx
  obtain⟨l',r,_⟩:=hmem y hy
  have:=tx_short r.2.2.2.1
  show(bs y.tx).size≤_
  simp[bs,ByteArray.size]
  omega
 ·obtain⟨y,hy,rfl⟩:=List.mem_map.1 hx
  obtain⟨l',r,_⟩:=hmem y hy
  exact r.2.2.2.2.1.2
end
section
open Go Go.RowKit
open Tr (Bx heap1 bt gen_world ret_int ret_bool cell_same)
theorem tree_bad {a:Ans}{p e:Nat}{w:World}{en:Ending}{w':World}(h:TreePost a w en w')(ha:a = .bad p e):VPost (.tuple #[.agg #[.slice none 0 0,.int .i64 0],.int .i64 (p:Int),.int .i64 (e:Int)]) w en w':=by
 subst ha
 obtain⟨A,n,c,r,m,q,er,rfl,hb,rfl,rfl,rfl,rfl,rfl,rfl,rfl⟩:=h
 exact⟨rfl,hb⟩
def GPost (nd:List Nd)(w:World)(e:Ending)(w':World):Prop:=∃A c,e = .returned (.tuple #[.agg #[.slice A nd.length c,.int .i64 ((nd.length:Int)-1)],.int .i64 0,.int .i64 0])∧Below w.heap.size w w'∧NdsB w.heap.size w' A (nd.map cvN)
theorem tree_good {a:Ans}{nd:List Nd}{k:Nat}{w:World}{en:Ending}{w':World}(h:TreePost a w en w')(ha:a = .good nd k):GPost nd w en w':=by
 subst ha
 obtain⟨A,n,c,r,m,q,er,rfl,hb,rfl,rfl,rfl,rfl,rfl,hN⟩:=h
 exact⟨A,c,rfl,hb,hN⟩
end
section
set_option maxHeartbeats 1500000
set_option maxRecDepth 100000
open Go Go.RowKit
open Tr (Bx heap1 bt Nds VPost)
def txA1:List UInt8:=[40,49,43,50,41,42,45,120]
def txB1:List UInt8:=[112,114,111,99,32,102,40,41,123,105,102,32,98,123,125,101,108,115,101,123,120,61,49,59,125,125]
def tsA1:List Tk.Tok:=[⟨3,0,0,[40]⟩,⟨2,1,1,[49]⟩,⟨3,0,2,[43]⟩,⟨2,2,3,[50]⟩,⟨3,0,4,[41]⟩,⟨3,0,5,[42]⟩,⟨3,0,6,[45]⟩,⟨1,0,7,[120]⟩,⟨5,0,8,[]⟩]
def tsB1:List Tk.Tok:=[⟨4,0,0,[112,114,111,99]⟩,⟨1,0,5,[102]⟩,⟨3,0,6,[40]⟩,⟨3,0,7,[41]⟩,⟨3,0,8,[123]⟩,⟨4,0,9,[105,102]⟩,⟨1,0,12,[98]⟩,⟨3,0,13,[123]⟩,⟨3,0,14,[125]⟩,⟨4,0,15,[101,108,115,101]⟩,⟨3,0,19,[123]⟩,⟨1,0,20,[120]⟩,⟨3,0,21,[61]⟩,⟨2,1,22,[49]⟩,⟨3,0,23,[59]⟩,⟨3,0,24,[125]⟩,⟨3,0,25,[125]⟩,⟨5,0,26,[]⟩]
def ndA1:List Nd:=[⟨20,1,1,[],[]⟩,⟨20,2,3,[],[]⟩,⟨27,0,2,[43],[0,1]⟩,⟨22,0,7,[120],[]⟩,⟨26,0,6,[45],[3]⟩,⟨27,0,5,[42],[2,4]⟩]
def ndB1:List Nd:=[⟨22,0,12,[98],[]⟩,⟨6,0,13,[],[]⟩,⟨20,1,22,[],[]⟩,⟨7,0,20,[120],[2]⟩,⟨6,0,19,[],[3]⟩,⟨11,0,9,[],[0,1,4]⟩,⟨6,0,8,[],[5]⟩,⟨3,0,0,[102],[6]⟩,⟨1,0,0,[],[7]⟩]
theorem cutA1:Tk.cutR txA1 0 = .ok tsA1:=by decide +kernel
theorem cutB1:Tk.cutR txB1 0 = .ok tsB1:=by decide +kernel
theorem parA1:exprR (tsA1.map cvT) = .ok [5] ⟨8,ndA1,0,1⟩:=by decide +kernel
theorem parB1:progR (tsB1.map cvT) = .ok [8] ⟨17,ndB1,0,2⟩:=by decide +kernel
theorem depA1:Tr.dpt (ndA1.map cvN) 5≤40:=by
 by_cases h:Tr.Snd (ndA1.map cvN) 5
 ·rw[Tr.dpt_yes h]
  have e:Tr.dpL (ndA1.map cvN) (ndA1.map cvN).length ((ndA1.map cvN).length-1)=3:=by decide +kernel
  rw[e];decide
 ·rw[Tr.dpt_no h];decide
theorem depB1:Tr.dpt (ndB1.map cvN) 8≤40:=by
 by_cases h:Tr.Snd (ndB1.map cvN) 8
 ·rw[Tr.dpt_yes h]
  have e:Tr.dpL (ndB1.map cvN) (ndB1.map cvN).length ((ndB1.map cvN).length-1)=7:=by decide +kernel
  rw[e];decide
 ·rw[Tr.dpt_no h];decide
theorem ansA1:ansOf exprR txA1 = .good ndA1 1:=by
 rw[ansOf_ok cutA1 parA1,if_neg (by decide),if_neg (by have:=depA1;show¬40<Tr.dpt (ndA1.map cvN) 5;omega)]
theorem ansB1:ansOf progR txB1 = .good ndB1 2:=by
 rw[ansOf_ok cutB1 parB1,if_neg (by decide),if_neg (by have:=depB1;show¬40<Tr.dpt (ndB1.map cvN) 8;omega)]
theorem tin_expr {w:World}{A:Option Addr}{nd:List Nd}(hN:Nds w A (nd.map cvN))(hx:ExR nd)(hT:Tb w):TIn w A nd.length (nd.map cvN):=by
 have hc:Caps w A (nd.map cvN):=fun p bA off K m c hp _ _ hk _=>by
  have:=hx.ok.exp (nd.map cvN)[p] (List.getElem_mem hp)
  rw[ndA_eq hp]at hk
  rw[hk]at this
  cases this
 exact⟨hN,by rw[List.length_map],fun x h=>by have:=hx.kids x h;omega,fun x h=>by have:=hx.text x h;omega,hx.num,hc,hT⟩
theorem shownExpr (A:Option Addr)(c:Nat)(w:World)(hN:Nds w A (ndA1.map cvN))(hT:Tb w):Calls Tryz.prog 23 #[.agg #[.slice A 6 c,.int .i64 5]] w (VPost (.string ⟨#[40,49,32,43,32,50,41,32,42,32,45,120]⟩) w):=by
 have hx:=expr_right cutA1 ansA1
 have h1:=printExpr_any A 6 c (ndA1.map cvN) 5 w (tin_expr hN hx hT) (fun x h=>by have:=hx.kids x h;omega)
 have e:exprT (ndA1.map cvN) 5=[40,49,32,43,32,50,41,32,42,32,45,120]:=by
  unfold exprT
  have hb:exB (ndA1.map cvN) 5=true:=hx.ok.exB
  rw[hb]
  show exT (ndA1.map cvN) (ndA1.map cvN).length 5=_
  decide +kernel
 rw[e]at h1
 exact h1
theorem shownProgram (A:Option Addr)(c:Nat)(w:World)(hN:Nds w A (ndB1.map cvN))(hT:Tb w):Calls Tryz.prog 21 #[.agg #[.slice A 9 c,.int .i64 8]] w (VPost (.string ⟨#[112,114,111,99,32,102,40,41,32,123,10,32,32,105,102,32,98,32,123,10,32,32,125,32,101,108,115,101,32,123,10,32,32,32,32,120,32,61,32,49,59,10,32,32,125,10,125,10]⟩) w):=by
 have hx:=prog_right cutB1 ansB1
 have h13:∀p,p<9→(ndA (ndB1.map cvN) ((p:Nat):Int)).kd≠13:=by decide +kernel
 have h1:=printProgram_any A 9 c (ndB1.map cvN) 8 w ⟨hN,rfl,hx.kids,hx.text,hx.num,fun p bA off K m c hp _ _ hk _=>absurd hk (h13 p hp),hT⟩
 have e:progT (ndB1.map cvN) 8=[112,114,111,99,32,102,40,41,32,123,10,32,32,105,102,32,98,32,123,10,32,32,125,32,101,108,115,101,32,123,10,32,32,32,32,120,32,61,32,49,59,10,32,32,125,10,125,10]:=by
  unfold progT
  have hb:Tr.rgB (ndB1.map cvN) 8=true:=hx.right
  rw[hb]
  show pgmT (ndB1.map cvN) (ndB1.map cvN).length 8=_
  decide +kernel
 rw[e]at h1
 exact h1
def GA1 (w:World)(e:Ending)(w':World):Prop:=∃A c,e = .returned (.tuple #[.agg #[.slice A 6 c,.int .i64 5],.int .i64 0,.int .i64 0])∧Below w.heap.size w w'∧NdsB w.heap.size w' A (ndA1.map cvN)
def GB1 (w:World)(e:Ending)(w':World):Prop:=∃A c,e = .returned (.tuple #[.agg #[.slice A 9 c,.int .i64 8],.int .i64 0,.int .i64 0])∧Below w.heap.size w w'∧NdsB w.heap.size w' A (ndB1.map cvN)
theorem shown6_any (w:World)(hE:Tk.Errs w)(hT:Tb w):Calls Tryz.prog 19 #[] w (VPost (.bool true) w):=by
 have H1:=Lib.hid (show Calls Tryz.prog 29 #[.string ⟨#[40,49,43,50,41,42,45,120]⟩] w (GA1 w) from(expr_any _ w hE (by decide)).mono fun _ _ q=>tree_good q ansA1)
 have H2:=Lib.hid (fun w' (q:Below w.heap.size w w')=>show Calls Tryz.prog 16 #[.string ⟨#[112,114,111,99,32,102,40,41,123,105,102,32,98,123,125,101,108,115,101,123,120,61,49,59,125,125]⟩] w' (GB1 w') from(program_any _ w' (hE.below q) (by decide)).mono fun _ _ q=>tree_good q ansB1)
 have HT:=Lib.hid hT
 clear hE hT
 go_enter Tryz.func19,Tryz.ntmps19
 go_wp2_with (go_at_call 29;refine H1.out.mono ?_)
 rintro e w1 ⟨A,c,rfl,hb1,hN⟩
 have HA1:=Lib.hid (bt hb1 (heap1 w1 (.cells #[.slice A 6 c,.int .i64 5] 25)))
 have HN1:=Lib.hid (hN.nds.below (heap1 w1 (.cells #[.slice A 6 c,.int .i64 5] 25)))
 have HX1:=Lib.hid (Bx.new w1 25 [.slice A 6 c,.int .i64 5])
 clear hb1 hN H1
 go_wp2_with (go_at_call 16;refine(H2.out _ HA1.out).mono ?_)
 rintro e w2 ⟨A2,c2,rfl,hb2,hN⟩
 have hs2:=hb2.size
 rw[World.size_alloc]at hs2
 have HB2:=Lib.hid (bt hb2 (heap1 w2 (.cells #[.slice A2 9 c2,.int .i64 8] 25)))
 have HN2:=Lib.hid (hN.nds.below (heap1 w2 (.cells #[.slice A2 9 c2,.int .i64 8] 25)))
 have HX2:=Lib.hid (Bx.new w2 25 [.slice A2 9 c2,.int .i64 8])
 have HX12:=Lib.hid (HX1.out.below HB2.out HX1.out.lt)
 have HN12:=Lib.hid (HN1.out.below HB2.out)
 have HA2:=Lib.hid (bt HA1.out HB2.out)
 have HE1:=Lib.hid (shownExpr A c _ HN12.out (HT.out.below HA2.out))
 have e0:=(HX12.out.cell 0).trans rfl
 have e1:=(HX12.out.cell 1).trans rfl
 clear hb2 hN H2
 go_wp2_with (go_at_call 23;refine HE1.out.mono ?_)
 rintro e w3 ⟨rfl,hb3⟩
 have HA3:=Lib.hid (bt HA2.out hb3)
 have hx2:=HX2.out.below hb3 HX2.out.lt
 have HE2:=Lib.hid (shownProgram A2 c2 w3 (HN2.out.below hb3) (HT.out.below HA3.out))
 have f0:=(hx2.cell 0).trans rfl
 have f1:=(hx2.cell 1).trans rfl
 clear hb3 hx2 e0 e1
 go_wp2_with (go_at_call 21;refine HE2.out.mono ?_)
 rintro e w4 ⟨rfl,hb4⟩
 have HA4:=Lib.hid (bt HA3.out hb4)
 clear hb4 f0 f1
 go_wp2
 go_ret
 exact⟨rfl,HA4.out⟩
end
section
set_option maxHeartbeats 2500000
set_option maxRecDepth 100000
open Go Go.RowKit
open Tr (Bx heap1 bt Nds VPost Snd dpt)
theorem exprT_len {l:List Tr.Nd}(r:Int)(hm:∀x ∈ l,x.n≤9223372036854775807):(exprT l r).length≤256000:=by
 unfold exprT
 cases hr:exB l r with
 |false=>exact Nat.zero_le _
 |true=>
  have hok:=exB_ok hr
  obtain⟨hl1,hl2,hr1⟩:=snd_len hok.snd
  have hrn:r=((l.length-1:Nat):Int):=by omega
  obtain⟨S,hS⟩:=snd_szd hok.snd
  have h1:=exT_len hok.sh (exn_of (snd_ahead hok.snd) hok.sh hm) hS l.length (l.length-1) (by omega)
  have h2:=hS.top (l.length-1) (by omega)
  rw[hrn]
  show(exT l l.length _).length≤_
  omega
noncomputable def oprT (l:List Tr.Nd)(r:Int):List UInt8:=if (ndA l r).kd=27 then [40]++exprT l r++[41] else exprT l r
theorem operand_any (A:Option Addr)(n c:Nat)(l:List Tr.Nd)(p:Nat)(w:World)(h:TIn w A n l)(hk3:∀x ∈ l,x.ks.length≤3000)(hp:p<n):Calls Tryz.prog 33 #[.agg #[.slice A n c,.int .i64 (p:Int)]] w (VPost (.string (bsX (oprT l p))) w):=by
 have hn:=h.len
 subst hn
 have hb0:=heap1 w (.cells #[.slice A l.length c,.int .i64 (p:Int)] 25)
 have HE:=Lib.hid (printExpr_any A l.length c l p _ (h.below hb0) hk3)
 have HX:=Lib.hid (Bx.new w 25 [.slice A l.length c,.int .i64 (p:Int)])
 have HB0:=Lib.hid hb0
 obtain⟨bA,off,K,cK,rfl,hltA,c0,_⟩:=node_at h.nds (Below.refl _ _) p hp
 rw[← ndA_eq hp]at c0
 have hpz:(p:Int)<(l.length:Int):=by omega
 have e0:=(HX.out.cell 0).trans rfl
 have e1:=(HX.out.cell 1).trans rfl
 have hlen:=exprT_len (l:=l) (p:Int) h.num
 rw[← bsX_size]at hlen
 unfold oprT
 generalize exprT l (p:Int)=y at *
 generalize (ndA l (p:Int)).kd=kd at *
 clear h hk3 hb0
 by_cases hkd:kd=27
 ·rw[if_pos hkd]
  subst hkd
  have hz1:¬9223372036854775807<1+(bsX y).size:=by omega
  have hz2:¬9223372036854775807<1+(bsX y).size+1:=by omega
  have HY:=Lib.hid (show(⟨#[40]⟩:ByteArray)++bsX y++⟨#[41]⟩=bsX ([40]++y++[41])by rw[← bsX_app,← bsX_app];rfl)
  clear hlen
  go_enter Tryz.func33,Tryz.ntmps33
  go_wp2_with (go_at_call 23;refine HE.out.mono ?_)
  rintro e w1 ⟨rfl,hb1⟩
  have HB1:=Lib.hid (bt HB0.out hb1)
  clear hb1
  go_wp2
  go_ret
  exact⟨congrArg (fun z=>Ending.returned (Value.string z)) HY.out,HB1.out⟩
 ·rw[if_neg hkd]
  go_enter Tryz.func33,Tryz.ntmps33
  go_wp2_with (go_at_call 23;refine HE.out.mono ?_)
  rintro e w1 ⟨rfl,hb1⟩
  have HB1:=Lib.hid (bt HB0.out hb1)
  clear hb1
  go_wp2
  go_ret
  exact⟨rfl,HB1.out⟩
theorem expr_bad {l:List UInt8}{p e:Nat}(h:ansOf exprR l = .bad p e):e≠0:=by
 cases hc:Tk.cutR l 0 with
 |bad q=>
  rw[ansOf_cut hc]at h
  injection h with h1 h2
  subst h2
  decide
 |ok us=>
  rcases(exprR_ok (ts_ok hc)).cases with⟨v,s',q,_⟩ |⟨p',e',q,⟨t,ht,hp⟩,he⟩
  ·rw[ansOf_ok hc q]at h
   split at h
   ·injection h with h1 h2;subst h2;decide
   split at h
   ·injection h with h1 h2;subst h2;decide
   ·cases h
  ·rw[ansOf_no hc q]at h
   injection h with h1 h2
   omega
theorem expr_good {l:List UInt8}{nd:List Nd}{k:Nat}(h:ansOf exprR l = .good nd k):ExR nd:=by
 cases hc:Tk.cutR l 0 with
 |bad q=>rw[ansOf_cut hc]at h;cases h
 |ok us=>exact expr_right hc h
section
variable {ops:Array Oper} {Q:Exit→Act→World→Prop} {S:World→Prop} {fuel:Nat} {listed:Array Bool} {a:Act} {w:World} {o:Oper}
theorem h_skip (i:Nat)(o:Oper)(hs:Region.noSelect ops=true)(hi:ops[i]?=some o)(hf:Region.free .any ops listed i=true)(hr:(Region.ready .any ops listed).contains i=true)
  (hQ:∀c a w,Q (.panic c) (a.put o.dst undef) w→Q (.panic c) a w) (hw:Region.wanted o (yielded ops a.tmps)=false) (hS:S w)
  (h:wpAnyH Tryz.prog .any ops Q S fuel (listed.setIfInBounds i true) (a.put o.dst undef) w):wpAnyH Tryz.prog .any ops Q S (fuel+1) listed a w:=
 wpAnyH_take hi hs hf hr hQ (.inr ⟨hw,rfl⟩) hS h
theorem h_skip1 (i:Nat)(o:Oper)(hi:ops[i]?=some o)(hr:Region.ready .any ops listed=[i])(hw:Region.wanted o (yielded ops a.tmps)=false)(hS:S w)
  (h:wpAnyH Tryz.prog .any ops Q S fuel (listed.setIfInBounds i true) (a.put o.dst undef) w):wpAnyH Tryz.prog .any ops Q S (fuel+1) listed a w:=
 wpAnyH_all hr (by simp) fun j hj=>by
  obtain rfl:j=i:=by simpa using hj
  unfold wpOp
  simp only[hi,hw]
  exact⟨hS,h⟩
end
end
section
set_option maxHeartbeats 8000000
set_option maxRecDepth 100000
open Go Go.RowKit
open Tr (Bx heap1 bt Nds VPost IPost Snd dpt)
def sgVals:List Value:=[.string ⟨#[43]⟩,.string ⟨#[45]⟩,.string ⟨#[42]⟩,.string ⟨#[47]⟩,.string ⟨#[37]⟩,.string ⟨#[61,61]⟩,.string ⟨#[33,61]⟩,.string ⟨#[60]⟩,.string ⟨#[60,61]⟩,.string ⟨#[62]⟩,.string ⟨#[62,61]⟩,.string ⟨#[38,38]⟩,.string ⟨#[124,124]⟩]
theorem pe_long (s t:ByteArray)(sign:Int)(w:World)(hE:Tk.Errs w)(hT:Tb w)(hl:600<s.size∨600<t.size):Calls Tryz.prog 8 #[.string s,.string t,.int .i64 sign] w (VPost (.bool true) w):=by
 have HS:=Lib.hid (shown6_any w hE hT)
 clear hE hT
 by_cases h1:600<s.size
 ·have hz:(600:Int)<(s.size:Int):=by omega
  go_enter Tryz.func8,Tryz.ntmps8
  go_wp2_with (go_at_call 19;refine HS.out.mono ?_)
  rintro e w1 ⟨rfl,hb1⟩
  have HB1:=Lib.hid hb1
  clear hb1
  go_wp2
  go_ret
  exact⟨rfl,HB1.out⟩
 ·have h2:600<t.size:=by omega
  have hz:¬(600:Int)<(s.size:Int):=by omega
  have hz2:(600:Int)<(t.size:Int):=by omega
  go_enter Tryz.func8,Tryz.ntmps8
  go_wp2_with (go_at_call 19;refine HS.out.mono ?_)
  rintro e w1 ⟨rfl,hb1⟩
  have HB1:=Lib.hid hb1
  clear hb1
  go_wp2
  go_ret
  exact⟨rfl,HB1.out⟩
theorem pe_bad (s t:ByteArray)(sign:Int)(w:World)(hE:Tk.Errs w)(hT:Tb w)(hs:s.size≤600)(ht:t.size≤600)(h:(∃p e,ansOf exprR s.data.toList = .bad p e)∨∃p e,ansOf exprR t.data.toList = .bad p e):Calls Tryz.prog 8 #[.string s,.string t,.int .i64 sign] w (VPost (.bool true) w):=by
 have HS:=Lib.hid (shown6_any w hE hT)
 have hz:¬(600:Int)<(s.size:Int):=by omega
 have hz2:¬(600:Int)<(t.size:Int):=by omega
 have PA:=Lib.hid (show∀w',Below w.heap.size w w'→Calls Tryz.prog 29 #[.string s] w' (TreePost (ansOf exprR s.data.toList) w')from fun w' q=>expr_any s w' (hE.below q) (by omega))
 have PB:=Lib.hid (show∀w',Below w.heap.size w w'→Calls Tryz.prog 29 #[.string t] w' (TreePost (ansOf exprR t.data.toList) w')from fun w' q=>expr_any t w' (hE.below q) (by omega))
 rcases h with⟨p0,e0,ha⟩ |⟨p0,e0,ha⟩
 ·have he:=expr_bad ha
  have hez:¬(e0:Int)=0:=by omega
  have PA:=Lib.hid (show∀w',Below w.heap.size w w'→Calls Tryz.prog 29 #[.string s] w' (VPost (.tuple #[.agg #[.slice none 0 0,.int .i64 0],.int .i64 (p0:Int),.int .i64 (e0:Int)]) w')from fun w' q=>(PA.out w' q).mono fun _ _ r=>tree_bad r ha)
  cases hb:ansOf exprR t.data.toList with
  |bad p1 e1=>
   have PB:=Lib.hid (show∀w',Below w.heap.size w w'→Calls Tryz.prog 29 #[.string t] w' (VPost (.tuple #[.agg #[.slice none 0 0,.int .i64 0],.int .i64 (p1:Int),.int .i64 (e1:Int)]) w')from fun w' q=>(PB.out w' q).mono fun _ _ r=>tree_bad r hb)
   clear hE hT hs ht ha hb
   go_enter Tryz.func8,Tryz.ntmps8
   go_wp2_with (go_at_call 19;refine HS.out.mono ?_)
   rintro e w1 ⟨rfl,hb1⟩
   have HA:=Lib.hid (PA.out w1 hb1)
   have HB1:=Lib.hid hb1
   clear hb1 PA
   go_wp2_with (go_at_call 29;refine HA.out.mono ?_)
   rintro e w2 ⟨rfl,hb2⟩
   have HB2:=Lib.hid (bt (bt HB1.out hb2) (heap1 w2 (.cells #[.slice none 0 0,.int .i64 0] 25)))
   have HC:=Lib.hid (PB.out _ HB2.out)
   clear hb2 PB HA
   go_wp2_with (go_at_call 29;refine HC.out.mono ?_)
   rintro e w3 ⟨rfl,hb3⟩
   have HB3:=Lib.hid (bt (bt HB2.out hb3) (heap1 w3 (.cells #[.slice none 0 0,.int .i64 0] 25)))
   clear hb3 HC
   go_wp2
   go_ret
   exact⟨rfl,HB3.out⟩
  |good nd k=>
   have PB:=Lib.hid (show∀w',Below w.heap.size w w'→Calls Tryz.prog 29 #[.string t] w' (GPost nd w')from fun w' q=>(PB.out w' q).mono fun _ _ r=>tree_good r hb)
   clear hE hT hs ht ha hb
   go_enter Tryz.func8,Tryz.ntmps8
   go_wp2_with (go_at_call 19;refine HS.out.mono ?_)
   rintro e w1 ⟨rfl,hb1⟩
   have HA:=Lib.hid (PA.out w1 hb1)
   have HB1:=Lib.hid hb1
   clear hb1 PA
   go_wp2_with (go_at_call 29;refine HA.out.mono ?_)
   rintro e w2 ⟨rfl,hb2⟩
   have HB2:=Lib.hid (bt (bt HB1.out hb2) (heap1 w2 (.cells #[.slice none 0 0,.int .i64 0] 25)))
   have HC:=Lib.hid (PB.out _ HB2.out)
   clear hb2 PB HA
   go_wp2_with (go_at_call 29;refine HC.out.mono ?_)
   rintro e w3 ⟨A,c,rfl,hb3,hN⟩
   have HB3:=Lib.hid (bt (bt HB2.out hb3) (heap1 w3 (.cells #[.slice A nd.length c,.int .i64 ((nd.length:Int)-1)] 25)))
   clear hb3 HC
   go_wp2
   go_ret
   exact⟨rfl,HB3.out⟩
 ·have he:=expr_bad ha
  have hez:¬(e0:Int)=0:=by omega
  have PB:=Lib.hid (show∀w',Below w.heap.size w w'→Calls Tryz.prog 29 #[.string t] w' (VPost (.tuple #[.agg #[.slice none 0 0,.int .i64 0],.int .i64 (p0:Int),.int .i64 (e0:Int)]) w')from fun w' q=>(PB.out w' q).mono fun _ _ r=>tree_bad r ha)
  cases hb:ansOf exprR s.data.toList with
  |bad p1 e1=>
   have he1:=expr_bad hb
   have hez1:¬(e1:Int)=0:=by omega
   have PA:=Lib.hid (show∀w',Below w.heap.size w w'→Calls Tryz.prog 29 #[.string s] w' (VPost (.tuple #[.agg #[.slice none 0 0,.int .i64 0],.int .i64 (p1:Int),.int .i64 (e1:Int)]) w')from fun w' q=>(PA.out w' q).mono fun _ _ r=>tree_bad r hb)
   clear hE hT hs ht ha hb
   go_enter Tryz.func8,Tryz.ntmps8
   go_wp2_with (go_at_call 19;refine HS.out.mono ?_)
   rintro e w1 ⟨rfl,hb1⟩
   have HA:=Lib.hid (PA.out w1 hb1)
   have HB1:=Lib.hid hb1
   clear hb1 PA
   go_wp2_with (go_at_call 29;refine HA.out.mono ?_)
   rintro e w2 ⟨rfl,hb2⟩
   have HB2:=Lib.hid (bt (bt HB1.out hb2) (heap1 w2 (.cells #[.slice none 0 0,.int .i64 0] 25)))
   have HC:=Lib.hid (PB.out _ HB2.out)
   clear hb2 PB HA
   go_wp2_with (go_at_call 29;refine HC.out.mono ?_)
   rintro e w3 ⟨rfl,hb3⟩
   have HB3:=Lib.hid (bt (bt HB2.out hb3) (heap1 w3 (.cells #[.slice none 0 0,.int .i64 0] 25)))
   clear hb3 HC
   go_wp2
   go_ret
   exact⟨rfl,HB3.out⟩
  |good nd k=>
   have PA:=Lib.hid (show∀w',Below w.heap.size w w'→Calls Tryz.prog 29 #[.string s] w' (GPost nd w')from fun w' q=>(PA.out w' q).mono fun _ _ r=>tree_good r hb)
   clear hE hT hs ht ha hb
   go_enter Tryz.func8,Tryz.ntmps8
   go_wp2_with (go_at_call 19;refine HS.out.mono ?_)
   rintro e w1 ⟨rfl,hb1⟩
   have HA:=Lib.hid (PA.out w1 hb1)
   have HB1:=Lib.hid hb1
   clear hb1 PA
   go_wp2_with (go_at_call 29;refine HA.out.mono ?_)
   rintro e w2 ⟨A,c,rfl,hb2,hN⟩
   have HB2:=Lib.hid (bt (bt HB1.out hb2) (heap1 w2 (.cells #[.slice A nd.length c,.int .i64 ((nd.length:Int)-1)] 25)))
   have HC:=Lib.hid (PB.out _ HB2.out)
   clear hb2 PB HA
   go_wp2_with (go_at_call 29;refine HC.out.mono ?_)
   rintro e w3 ⟨rfl,hb3⟩
   have HB3:=Lib.hid (bt (bt HB2.out hb3) (heap1 w3 (.cells #[.slice none 0 0,.int .i64 0] 25)))
   clear hb3 HC
   go_wp2
   go_ret
   exact⟨rfl,HB3.out⟩
end
end Go.Proofs.YteecfjhjllajlaaGreatDoor
