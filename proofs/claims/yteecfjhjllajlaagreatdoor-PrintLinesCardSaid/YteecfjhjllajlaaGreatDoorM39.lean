/- PROVED here: parts Yp Zt TrOw Yq of the claim. No condition but those in each theorem's own head. -/
import Derived.Test.YteecfjhjllajlaaGreatDoorM33
import Derived.Test.YteecfjhjllajlaaGreatDoorM38
import Derived.Test.YteecfjhjllajlaaGreatDoorM01
import Derived.Test.YteecfjhjllajlaaGreatDoorM22
namespace Go.Proofs.YteecfjhjllajlaaGreatDoor
section
set_option maxHeartbeats 2500000
set_option maxRecDepth 100000
open Go Go.RowKit
open Tr (Bx heap1 bt Nds Ints BPost IPost VPost Snd rgB dpt)
def Tb (w:World):Prop:=∀w',Below w.heap.size w w'→Lib.TabIs Tryz.prog w' "internal/strconv.uint64pow10" .u64 Lib.pow10Tab
theorem Tb.below {w w':World}(h:Tb w)(hb:Below w.heap.size w w'):Tb w':=fun _ q=>h _ (bt hb q)
theorem Caps.below {w w':World}{A:Option Addr}{l:List Tr.Nd}(h:Caps w A l)(hN:Nds w A l)(hb:Below w.heap.size w w'):Caps w' A l:=fun p bA off K m c hp hA hc hk hm=>by
 obtain⟨b,o,e,hlt,hcell⟩:=hN (by omega)
 obtain⟨K',c',_,_,_,_,h4,_⟩:=hcell p hp
 rw[hA]at e
 injection e with e
 injection e with e1 e2
 subst e1 e2
 have h5:=((hb.cell (p:=⟨bA,off+p*5+4,none⟩) hlt).trans h4).symm.trans hc
 injection h5 with h5
 injection h5 with x1 x2 x3
 subst x1 x2 x3
 exact h p bA off _ _ _ hp hA h4 hk hm
structure TIn (w:World) (A:Option Addr) (n:Nat) (l:List Tr.Nd):Prop where
 nds:Nds w A l
 len:n=l.length
 kids:∀x ∈ l,x.ks.length≤4000
 text:∀x ∈ l,x.tx.size≤281474976710656
 num:∀x ∈ l,x.n≤9223372036854775807
 caps:Caps w A l
 tab:Tb w
theorem TIn.below {w w':World}{A:Option Addr}{n:Nat}{l:List Tr.Nd}(h:TIn w A n l)(hb:Below w.heap.size w w'):TIn w' A n l:=
 ⟨h.nds.below hb,h.len,h.kids,h.text,h.num,h.caps.below h.nds hb,h.tab.below hb⟩
theorem TIn.right {w:World}{A:Option Addr}{n:Nat}{l:List Tr.Nd}(h:TIn w A n l)(c:Nat)(r:Int):Calls Tryz.prog 27 #[.agg #[.slice A n c,.int .i64 r]] w (BPost (rgB l r) w):=Tr.right_any A c n l r w h.nds h.len h.kids h.text h.num
structure RgOk (l:List Tr.Nd) (r:Int):Prop where
 snd:Snd l r
 dep:dpt l r≤40
 root:(ndA l ((l.length-1:Nat):Int)).kd=1
 sh:Tr.shB l=true
theorem rg_ok {l:List Tr.Nd}{r:Int}(h:rgB l r=true):RgOk l r:=by
 unfold rgB at h
 simp only[Bool.and_eq_true,decide_eq_true_eq]at h
 exact⟨sndB_iff.1 h.1,h.2.1,by unfold ndA;rw[Int.toNat_natCast];exact h.2.2.1,h.2.2.2⟩
theorem snd_szd {l:List Tr.Nd}{r:Int}(h:Snd l r):∃S,Szd l S:=by
 obtain⟨b,h1,h2,h3,hS,h0⟩:=h
 exact⟨_,szd_of hS (fun q hq=>hS.le q hq) h2⟩
noncomputable def progT (l:List Tr.Nd)(r:Int):List UInt8:=if rgB l r then pgmT l l.length r else []
noncomputable def lineT (l:List Tr.Nd)(r p:Int):List UInt8:=if decide (0≤p)&&(decide (p<(l.length:Int))&&(Tr.stmB (ndA l p).kd&&rgB l r)) then lnT l l.length p else []
theorem TIn.px {w:World}{A:Option Addr}{n:Nat}{l:List Tr.Nd}(h:TIn w A n l){r:Int}(hs:Snd l r)(hx:ExN l):Px0 w A l n:=⟨h.nds,h.len,by have:=(snd_len hs).2.1;have:=h.len;omega,hx,h.tab⟩
theorem TIn.sh {w:World}{A:Option Addr}{n:Nat}{l:List Tr.Nd}(h:TIn w A n l){r:Int}(hs:Snd l r)(hh:Tr.shB l=true):ShOk l:=sh_ok (snd_ahead hs) hh h.num h.kids
theorem printProgram_any (A:Option Addr)(n c:Nat)(l:List Tr.Nd)(r:Int)(w:World)(h:TIn w A n l):Calls Tryz.prog 21 #[.agg #[.slice A n c,.int .i64 r]] w (VPost (.string (bsX (progT l r))) w):=by
 have hn:=h.len
 subst hn
 have hb0:=heap1 w (.cells #[.slice A l.length c,.int .i64 r] 25)
 have HR:=Lib.hid ((h.below hb0).right c r)
 have HX:=Lib.hid (Bx.new w 25 [.slice A l.length c,.int .i64 r])
 have HB0:=Lib.hid hb0
 have H:=Lib.hid h
 cases hr:rgB l r with
 |false=>
  have e:progT l r=[]:=by unfold progT;rw[hr];rfl
  rw[e]
  rw[hr]at HR
  clear e hr hb0 h
  go_enter Tryz.func21,Tryz.ntmps21
  go_wp2_with (go_at_call 27;refine HR.out.mono ?_)
  rintro e w1 ⟨rfl,hb1⟩
  have HB1:=Lib.hid (bt HB0.out hb1)
  clear hb1
  go_wp2
  go_ret
  exact⟨rfl,HB1.out⟩
 |true=>
  have hok:=rg_ok hr
  have e:progT l r=pgmT l l.length r:=by unfold progT;rw[hr];rfl
  rw[e]
  rw[hr]at HR
  obtain⟨hl1,hl2,hr1⟩:=snd_len hok.snd
  have hrn:r=((l.length-1:Nat):Int):=by omega
  have hroot:=hok.root
  rw[← hrn]at hroot
  obtain⟨S,hS⟩:=snd_szd hok.snd
  have hsh:=h.sh hok.snd hok.sh
  have hlen:(pgmT l l.length r).length≤2800000000:=by
   rw[hrn];rw[hrn]at hroot
   exact pgmT_len hok.sh hsh hS hl2 _ _ (by omega) hroot
  have HC:=Lib.hid (show∀w2,Below w.heap.size w w2→Calls Tryz.prog 60 #[.agg #[.slice A l.length c,.int .i64 r],.int .i64 r,.func (.func 61) #[] #[]] w2 fun e w'=>e = .returned (.string (bsX (pgmT l l.length r)))∧Below w2.heap.size w2 w' from fun w2 q=>by
   have hin:=(h.below q).below (heap1 w2 (.cells #[.slice A l.length c,.int .i64 r] 25))
   have hpx:=hin.px hok.snd hsh.ex
   have hcp:=hin.caps
   by_cases hks:(ndA l r).ks=[]
   ·rw[pgmT_nil hks]
    refine printed61_none A l.length c r r w2 _ rfl fun w' q' =>?_
    rw[hrn]at hks ⊢
    exact program_none c _ hpx _ w' (by omega) hks q'
   ·refine printed61_pg A l.length c r r _ w2 _ rfl (pgmT_ne hks) fun w' q' hp' =>?_
    have:=program_pg c _ hpx hcp hsh (l.length-1) [] w' (by omega) (by rw[← hrn];exact hroot) q' hp' (by rw[← hrn];show 0+_≤_;omega)
    rw[← hrn,List.nil_append]at this
    exact this)
  clear hlen hsh hS hroot hrn hr1 hl1 hl2 e hok hr hb0 h
  generalize pgmT l l.length r=y at *
  have e0:=(HX.out.cell 0).trans rfl
  have e1:=(HX.out.cell 1).trans rfl
  go_enter Tryz.func21,Tryz.ntmps21
  go_wp2_with (go_at_call 27;refine HR.out.mono ?_)
  rintro e w1 ⟨rfl,hb1⟩
  have HB1:=Lib.hid (bt HB0.out hb1)
  have hx1:=HX.out.below hb1 (by rw[World.size_alloc];omega)
  clear e0 e1
  have e0:=(hx1.cell 0).trans rfl
  have e1:=(hx1.cell 1).trans rfl
  clear hb1 hx1
  go_wp2_with (go_at_call 60;refine(HC.out w1 HB1.out).mono ?_)
  rintro e w2 ⟨rfl,hb2⟩
  have HB2:=Lib.hid (bt HB1.out hb2)
  clear hb2 e0 e1
  go_wp2
  go_ret
  exact⟨rfl,HB2.out⟩
end
section
open Go Go.ChangeShapes Go.WideShapes Go.ChangeAt Go.RowKit
open Tr (VPost dpt)
theorem g10:Tryz.prog.globalNamed "internal/strconv.uint64pow10" = some 0:=by kernel_rfl
theorem d10:(Rows.laid_internal_strconv_uint64pow10:DataW Unit)=Lib.tabData .u64 Lib.pow10Tab:=by kernel_rfl
theorem u227:Tryz.prog.underlying 227=some (.array 20 188):=by kernel_rfl
theorem u188:Tryz.prog.underlying 188=some (.int .u64):=by kernel_rfl
theorem tabIs_below {n:String}{g:Nat}{k:IntKind}{zs:List Int}{w w':World}(hg:Tryz.prog.globalNamed n=some g)(h:Lib.TabIs Tryz.prog w n k zs)(hb:Below w.heap.size w w'):Lib.TabIs Tryz.prog w' n k zs:=by
 unfold Lib.TabIs World.var? at h ⊢
 rw[hg]at h ⊢
 simp only[Option.bind_some]at h ⊢
 have hlt:g<w.heap.size:=by
  rcases Nat.lt_or_ge g w.heap.size with h' |h'
  ·exact h'
  ·rw[Array.getElem?_eq_none h']at h;cases h
 rw[hb.block g hlt]
 exact h
theorem tb_of_laid {W:World}(h:laidMetH Tryz.prog laid5 W):Tb W:=by
 rw[MakeChecks.laidMetH_plain _ _ _ (by kernel_rfl)]at h
 obtain⟨ps,hv,_⟩:=h
 obtain⟨g,t,cs,fuel,p,h1,h2,h3,h4⟩:=laid_reads hv "internal/strconv.uint64pow10" Rows.laid_internal_strconv_uint64pow10 (by simp[laid5])
 obtain rfl:0=g:=Option.some.inj (g10.symm.trans h1)
 obtain rfl:227=t:=Option.some.inj ((show(Tryz.prog.globals[0]?).map (·.type)=some 227 by kernel_rfl).symm.trans h2)
 rw[d10]at h4
 have hc:=Lib.cells_of_tab u227 u188 (by kernel_rfl) (by kernel_rfl) h4
 have h5:Lib.TabIs Tryz.prog W "internal/strconv.uint64pow10" .u64 Lib.pow10Tab:=by
  unfold Lib.TabIs
  rw[h3,← hc]
 exact fun w' hb=>tabIs_below g10 h5 hb
theorem bsX_app (a b:List UInt8):bsX a++bsX b=bsX (a++b):=by
 apply ByteArray.ext
 simp[bsX,ByteArray.data_append]
theorem bsX_data (a:List UInt8):(bsX a).data.toList=a:=by simp[bsX]
theorem bsX_size (a:List UInt8):(bsX a).size=a.length:=by simp[bsX,ByteArray.size]
end
end Go.Proofs.YteecfjhjllajlaaGreatDoor
namespace Go.Proofs.YteecfjhjllajlaaGreatDoor.Tr
section
set_option maxHeartbeats 1500000
set_option maxRecDepth 100000
open Go Go.RowKit
def NdsL (B:Nat)(w:World)(A:Option Addr)(l:List Nd):Prop:=
 0<l.length→∃b off,A=some ⟨b,off,none⟩∧B≤b∧b<w.heap.size∧∀j (hj:j<l.length),∃K c,w.cell? ⟨b,off+j*5,none⟩=some (.int .i64 l[j].kd)∧w.cell? ⟨b,off+j*5+1,none⟩=some (.int .i64 l[j].n) ∧
  w.cell? ⟨b,off+j*5+2,none⟩=some (.int .i64 l[j].pl)∧w.cell? ⟨b,off+j*5+3,none⟩=some (.string l[j].tx)∧w.cell? ⟨b,off+j*5+4,none⟩=some (.slice K l[j].ks.length c)∧Ints w K l[j].ks∧∀a,K=some a→B≤a.block
def TPostB (l:List Nd)(r:Int)(w:World)(e:Ending)(w':World):Prop:=∃A c,e = .returned (.agg #[.slice A l.length c,.int .i64 r])∧NdsL w.heap.size w' A l∧l.length≤c∧Below w.heap.size w w'
theorem ndsL_own {base:Nat}{w:World}{v:Value}{ls:List AN}(h:w.ownsRow base 37 5 v ls.length (fl ls))(hA:Al base w ls):∃A c,v = .slice A ls.length c∧NdsL base w A (ls.map AN.nd):=by
 rcases h.2 with⟨rfl,e⟩ |⟨g,cap,cur,rfl,hb,hg,hn,_,_,ht⟩
 ·exact⟨none,0,by rw[e],fun h0=>by simp at h0;omega⟩
 ·refine⟨_,_,rfl,fun h0 =>?_⟩
  refine⟨g,0,rfl,hb,(Array.getElem?_eq_some_iff.1 hg).1,fun j hj =>?_⟩
  have hj':j<ls.length:=by simpa using hj
  have key:∀f,f<5→w.cell? ⟨g,0+j*5+f,none⟩=(ls[j].cv)[f]?:=fun f hf=>by
   rw[cell_of_row w g _ cur 37 (0,0) hg,Nat.zero_add,← fl_get ls j f hj' hf,← ht,List.getElem?_take,if_pos (by omega)]
   simp
  rw[List.getElem_map]
  exact⟨_,_,key 0 (by decide),key 1 (by decide),key 2 (by decide),key 3 (by decide),key 4 (by decide),(hA _ (List.getElem_mem _)).2.ints',fun a ha=>by cases ha;exact(hA _ (List.getElem_mem _)).1⟩
theorem tpostB_own {n:Nat}{c:Nat}{A:Option Addr}{ls:List AN}{l:List Nd}{r r':Int}{w w':World}(h:w'.ownsRow w.heap.size 37 5 (.slice A n c) n (fl ls))(hA:Al w.heap.size w' ls)(hm:ls.map AN.nd=l)(hb:Below w.heap.size w w')(hr:r=r'):TPostB l r w (.returned (.agg #[.slice A n c,.int .i64 r'])) w':=by
 have hl:ls.length=n:=by have:=h.1;rw[fl_len]at this;omega
 have hl2:l.length=n:=by rw[← hm,List.length_map,hl]
 subst hr
 have h':=h
 rw[← hl]at h'
 obtain⟨A',c',e,hN⟩:=ndsL_own h' hA
 rw[hl]at e
 cases e
 rw[hm]at hN
 have hc:n≤c:=by
  rcases h.2 with⟨e1,e2⟩ |⟨g,cap,cur,e1,_,_,h3,_⟩
  ·omega
  ·cases e1;exact h3
 exact⟨A,c,by rw[hl2],hN,by omega,hb⟩
theorem over_anyB (kd nn pl:Int)(tx:ByteArray)(K0:Option Addr)(n0 c0:Nat)(A:Option Addr)(m c:Nat)(ts:List Tr)(w:World)(hT:Trs w A ts)(hm:m=ts.length)(hm2:m≤4000)(ht:∀t ∈ ts,t.1.length≤4000∧∀x ∈ t.1,x.ks.length≤4000)(hs:(ovA ts).length≤10000000)(hs2:∀i,(ovA (ts.take i)).length≤10000000) :
  Calls Tryz.prog 32 #[.agg #[.int .i64 kd,.int .i64 nn,.int .i64 pl,.string tx,.slice K0 n0 c0],.slice A m c] w (TPostB (ovL kd nn pl tx ts) ((ovA ts).length:Int) w):=by
 obtain⟨i0,hi,hz0,hz1,hz2⟩:=info_parts info24
 have e0:∀(w':World) (o:Obj),(w'.alloc o).heap.size=w'.heap.size+1:=fun w' o=>World.size_alloc w' o
 have HT:=Lib.hid hT
 have HM:=Lib.hid hm
 have HTS:=Lib.hid ht
 have HS:=Lib.hid hs
 have HS2:=Lib.hid hs2
 clear hT hm ht hs hs2
 have hmk:=fun w'=>make22 m (by omega) w'
 go_enter Tryz.func32,Tryz.ntmps32
 go_wp2
 clear hmk
 go_loopw [5,14] (fun v i wr=>∃(k:Nat) (ls:List AN),k≤m∧i = .int .i64 (k:Int)∧OvI w m [.int .i64 kd,.int .i64 nn,.int .i64 pl,.string tx,.slice K0 n0 c0] ts k v ls wr) (fun _ i _=>m-(intOf i).toNat)
 case atStart=>
  refine⟨0,[],Nat.zero_le _,rfl,((Bx.new w 37 _).alloc _).alloc _,?_,?_,World.ownsRow_nil _ _ _ _,fun x hx=>(by cases hx),rfl,((heap1 w _).alloc (by rw[e0];omega) _).alloc (by rw[e0,e0];omega) _⟩
  ·have:=(Bx.new (w.alloc (.cells #[.int .i64 kd,.int .i64 nn,.int .i64 pl,.string tx,.slice K0 n0 c0] 37)) 25 [.slice none 0 0,.int .i64 0]).alloc (.cells (mkI m fun _=>0) 3)
   rw[e0]at this;exact this
  ·have:=World.alloc_heap_new ((w.alloc (.cells #[.int .i64 kd,.int .i64 nn,.int .i64 pl,.string tx,.slice K0 n0 c0] 37)).alloc (.cells #[.slice none 0 0,.int .i64 0] 25)) (.cells (mkI m fun _=>0) 3)
   rw[e0,e0]at this
   exact(show Ib _ _ _ _ from this).congr fun i _=>(if_neg (Nat.not_lt_zero i)).symm
 case round=>
  obtain⟨k,ls,hk,rfl,hO⟩:=hrel
  obtain⟨V,cV,rfl⟩:=own_slice hO.o
  have HLEN:=Lib.hid (show ls.length=(ovA (ts.take k)).length by rw[← hO.e,List.length_map])
  have hlb:ls.length≤10000000:=by rw[HLEN.out];exact HS2.out k
  obtain⟨q,hq⟩:∃q,q=ls.length:=⟨_,rfl⟩
  have HQ:=Lib.hid hq
  rw[← hq]at hlb ⊢
  clear hq
  by_cases hlt:k<m
  ·have hlz:(k:Int)<(m:Int):=by omega
   have hkt:k<ts.length:=by rw[← HM.out];exact hlt
   obtain⟨bA,off,rfl,hbl,hc⟩:=HT.out (by omega)
   obtain⟨K,ck,d0',d1',hN⟩:=hc k hkt
   have d0:=(hO.b.cell (p:=⟨bA,off+k*2,none⟩) hbl).trans d0'
   have d1:=(hO.b.cell (p:=⟨bA,off+k*2+1,none⟩) hbl).trans d1'
   clear d0' d1'
   obtain⟨ht1,ht2⟩:=HTS.out _ (List.getElem_mem hkt)
   have HTK:=Lib.hid (show ts.getD k ([],0)=ts[k]by simp[List.getD,hkt])
   have HTT:=Lib.hid (show ts.take (k+1)=ts.take k++[ts[k]]from List.take_succ_eq_append_getElem hkt)
   clear hc
   generalize ts[k]=t at *
   obtain⟨tn,tr⟩:=t
   dsimp only at d0 d1 hN ht1 ht2
   have HRT:=Lib.hid (show wrap64 ((q:Int)+tr)=rtF ts k by unfold rtF;rw[HTK.out,HQ.out,HLEN.out])
   have hcg:=hO.g.cell hlt
   have hfg:=hO.g.frozen k
   have HP:=Lib.hid (hO.put hkt HRT.out)
   have HE:=Lib.hid hO.e
   have HN:=Lib.hid hN
   have hwz:w.heap.size+1+1<wr.heap.size:=hO.g.lt
   clear hO hN
   go_upto_region 7 with(fail)
   refine gen_world (fun W=>Bx W wr.heap.size 25 [.slice K tn.length ck,.int .i64 tr]∧Bx W w.heap.size 37 [.int .i64 kd,.int .i64 nn,.int .i64 pl,.string tx,.slice K0 n0 c0]∧Bx W (w.heap.size+1) 25 [.slice none 0 0,.int .i64 0] ∧
    Ib W (w.heap.size+1+1) m (fun j=>if j<k+1 then rtF ts j else 0)∧W.ownsRow (w.heap.size+3) 37 5 (.slice V ls.length cV) ls.length (fl ls)∧Al (w.heap.size+3) W ls∧Below w.heap.size w W) ?_ ?_
   ·obtain⟨p1,p2,p3,p4,p5,p6⟩:=HP.out
    have:=Bx.new (wr.setCell ⟨w.heap.size+1+1,k,none⟩ (.int .i64 (wrap64 ((q:Int)+tr)))) 25 [.slice K tn.length ck,.int .i64 tr]
    rw[World.size_setCell]at this
    exact⟨this,p1.alloc _,p2.alloc _,p3.alloc _,own_below p4 (heap1 _ _),p5.alloc _,p6.alloc p6.size _⟩
   clear HP hcg hfg d0 d1
   rintro W ⟨hX1,hx1,hr1,hg1,ho1,ha1,hb1⟩
   have hN1:=HN.out.below hb1
   have hc0:=hX1.cell 0
   simp only[List.getElem?_cons_zero]at hc0
   have HMV:=Lib.hid (moved_any K ck tn.length tn (q:Int) W hN1 rfl (by omega) ht2)
   clear hN1
   go_wp2_with (go_at_call 79;refine HMV.out.mono ?_)
   clear HMV
   rintro e w3 ⟨ms,rfl,hom,hmm,ham,hb3⟩
   have hml:ms.length=tn.length:=by have:=congrArg List.length hmm;simpa using this
   have ho3:=own_below ho1 hb3
   rw[← HQ.out]at ho3
   go_wp2_with (first
    |(at_builtin;refine wpList_append_own _ rfl _ _ 23 rfl (w.heap.size+3) 37 i0 (.agg #[.int .i64 0,.int .i64 0,.int .i64 0,.string ⟨#[]⟩,.slice none 0 0]) 5 64 Tryz.underlying23 hi hz0 hz1 hz2 rfl (by decide) _ _ _ rfl ho3 ⟨W.heap.size,0,none⟩ tn.length tn.length (fl ms) rfl (by rw[fl_len,hml]) (own_cells hom) (fl_one ms) ?c3 ?c4 ?c5 ?_))
   case c3=>unfold maxLen;omega
   case c4=>omega
   case c5=>have:=hb3.size;have:=hX1.lt;omega
   intro v' w4 hown4 hgrow4 _
   have hzW:w.heap.size+3≤W.heap.size:=by have:=hX1.lt;omega
   have hnb:∀b,b<w.heap.size+3→some b≠(Value.slice V q cV).ownBlock:=fun b hb e=>by have:=(ho3.lt b e.symm).1;omega
   have hfin:OvI w m [.int .i64 kd,.int .i64 nn,.int .i64 pl,.string tx,.slice K0 n0 c0] ts (k+1) v' (ls++ms) w4:=by
    refine⟨(hx1.below hb3 hx1.lt).grown hgrow4 (hnb _ (by omega)),(hr1.below hb3 hr1.lt).grown hgrow4 (hnb _ (by omega)),(hg1.below hb3 hg1.lt).grown hgrow4 (hnb _ (by omega)),?_,((ha1.below hb3).grown hgrow4 (own_row24 ho3)).app ((ham.mono hzW).grown hgrow4 (own_row24 ho3)),?_,?_⟩
    ·rw[List.length_append,fl_app,← HQ.out,hml];exact hown4
    ·rw[List.map_append,HE.out,hmm,HTT.out,ovA_snoc]
     have:((ovA (ts.take k)).length:Int)=(q:Int):=by rw[HQ.out,HLEN.out]
     rw[this]
    ·exact(hb1.trans (hb3.mono hb1.size)).grown hgrow4 (by have:=hb1.size;have:=hb3.size;omega) (fun b hb=>by have:=(ho3.lt b hb).1;omega)
   have HF:=Lib.hid hfin
   clear hfin hown4 hgrow4 ho3 hnb hb3 ham hom hmm ha1 ho1 hg1 hr1 hx1 hX1 hc0
   go_wp2
   go_roundw
   case rel=>exact⟨k+1,ls++ms,by omega,by go_num,HF.out⟩
   case measure=>simp[intOf];omega
  ·obtain rfl:k=m:=by omega
   have hlz:¬(k:Int)<(k:Int):=by omega
   have hcx:=hO.x.cell 4
   have hfx:=hO.x.frozen 4
   simp only[List.getElem?_cons_zero,List.getElem?_cons_succ]at hcx
   have HO:=Lib.hid hO
   clear hO
   go_upto_region 10 with(fail)
   refine gen_world (fun W=>Bx W w.heap.size 37 [.int .i64 kd,.int .i64 nn,.int .i64 pl,.string tx,.slice (some ⟨w.heap.size+1+1,0,none⟩) k k]∧Bx W (w.heap.size+1) 25 [.slice none 0 0,.int .i64 0] ∧
    Ib W (w.heap.size+1+1) k (fun j=>if j<k then rtF ts j else 0)∧W.ownsRow (w.heap.size+3) 37 5 (.slice V ls.length cV) ls.length (fl ls)∧Al (w.heap.size+3) W ls∧Below w.heap.size w W) ?_ ?_
   ·have h:=HO.out
    exact⟨h.x.set_ 4 _,h.r.far (by show w.heap.size+1≠w.heap.size;omega) _,h.g.far (by show w.heap.size+1+1≠w.heap.size;omega) _,own_set h.o (by omega),al_set h.a (by omega),h.b.setCell (p:=⟨w.heap.size,4,none⟩) (Nat.le_refl _) _⟩
   have HE:=Lib.hid HO.out.e
   clear HO hcx hfx
   rintro W ⟨hx1,hr1,hg1,ho1,ha1,hb1⟩
   have b0:=hx1.cell 0
   have b1:=hx1.cell 1
   have b2:=hx1.cell 2
   have b3:=hx1.cell 3
   have b4:=hx1.cell 4
   simp only[List.getElem?_cons_zero,List.getElem?_cons_succ]at b0 b1 b2 b3 b4
   rw[← HQ.out]at ho1
   have hzW:w.heap.size+3≤W.heap.size:=by have:=hg1.lt;omega
   have HH:=Lib.hid (And.intro hr1 (And.intro hg1 (And.intro ho1 (And.intro ha1 hb1))))
   clear hx1 hr1 hg1 ha1 hb1
   go_wp2_with (first
    |(at_builtin;refine wpList_append_own _ rfl _ _ 23 rfl (w.heap.size+3) 37 i0 (.agg #[.int .i64 0,.int .i64 0,.int .i64 0,.string ⟨#[]⟩,.slice none 0 0]) 5 64 Tryz.underlying23 hi hz0 hz1 hz2 rfl (by decide) _ _ _ rfl (own_below ho1 (heap1 W _)) ⟨W.heap.size,0,none⟩ 1 1 [.int .i64 kd,.int .i64 nn,.int .i64 pl,.string tx,.slice (some ⟨w.heap.size+1+1,0,none⟩) k k] rfl rfl ?c1 ?c2 ?c3 ?c4 ?c5 ?_))
   case c2=>exact⟨rfl,rfl,rfl,rfl,rfl⟩
   case c3=>unfold maxLen;omega
   case c4=>omega
   case c5=>omega
   intro v' w4 hown4 hgrow4 _
   obtain⟨A',c',rfl⟩:=own_slice hown4
   obtain⟨hr1,hg1,_,ha1,hb1⟩:=HH.out
   have hoA:=own_below ho1 (heap1 W (.cells #[.int .i64 kd,.int .i64 nn,.int .i64 pl,.string tx,.slice (some ⟨w.heap.size+1+1,0,none⟩) k k] 37))
   have hnb:∀b,b<w.heap.size+3→some b≠(Value.slice V q cV).ownBlock:=fun b hb e=>by have:=(hoA.lt b e.symm).1;omega
   have hr4:=(hr1.alloc _).grown hgrow4 (hnb _ (by omega))
   have hg4:=(hg1.alloc _).grown hgrow4 (hnb _ (by omega))
   have ha4:=(ha1.alloc _).grown hgrow4 (own_row24 hoA)
   have hb4:=(hb1.alloc hb1.size _).grown hgrow4 (by rw[e0];omega) (fun b hb=>by have:=(hoA.lt b hb).1;omega)
   have hcr0:=hr4.cell 0
   have hcr1:=hr4.cell 1
   have hfr0:=hr4.frozen 0
   have hfr1:=hr4.frozen 1
   simp only[List.getElem?_cons_zero,List.getElem?_cons_succ]at hcr0 hcr1
   have HR4:=Lib.hid hr4
   have HG4:=Lib.hid hg4
   have HA4:=Lib.hid ha4
   have HB4:=Lib.hid hb4
   have HO4:=Lib.hid hown4
   clear hr1 hg1 ha1 hb1 hoA hnb hr4 hg4 ha4 hb4 hown4 hgrow4 ho1 HH
   go_wp2
   have hE3:=(HR4.out.set_ 0 (.slice A' (q+1) c')).set_ 1 (.int .i64 (q:Int))
   have ho3:=own_set (i:=1) (u :=.int .i64 (q:Int)) (own_set (i:=0) (u :=.slice A' (q+1) c') HO4.out (show w.heap.size+1<w.heap.size+3 by omega)) (show w.heap.size+1<w.heap.size+3 by omega)
   have ha3:=al_set (i:=1) (u :=.int .i64 (q:Int)) (al_set (i:=0) (u :=.slice A' (q+1) c') HA4.out (show w.heap.size+1<w.heap.size+3 by omega)) (show w.heap.size+1<w.heap.size+3 by omega)
   have hg3:=(HG4.out.far (p:=⟨w.heap.size+1,0,none⟩) (by show w.heap.size+1+1≠w.heap.size+1;omega) (.slice A' (q+1) c')).far (p:=⟨w.heap.size+1,1,none⟩) (by show w.heap.size+1+1≠w.heap.size+1;omega) (.int .i64 (q:Int))
   have hb3:=(HB4.out.setCell (p:=⟨w.heap.size+1,0,none⟩) (by show _≤w.heap.size+1;omega) (.slice A' (q+1) c')).setCell (p:=⟨w.heap.size+1,1,none⟩) (by show _≤w.heap.size+1;omega) (.int .i64 (q:Int))
   generalize (w4.setCell ⟨w.heap.size+1,0,none⟩ (.slice A' (q+1) c')).setCell ⟨w.heap.size+1,1,none⟩ (.int .i64 (q:Int))=W3 at *
   have hr0:=hE3.cell 0
   have hr1:=hE3.cell 1
   simp only[List.set_cons_zero,List.set_cons_succ,List.getElem?_cons_zero,List.getElem?_cons_succ]at hr0 hr1
   have hrl:(rts ts).length=k:=by unfold rts;rw[List.length_map,List.length_range];exact HM.out.symm
   have hov:ls.map AN.nd=ovA ts:=by rw[HE.out,List.take_of_length_le (by rw[← HM.out];omega)]
   refine bodyPost_ret (v :=.agg #[.slice A' (q+1) c',.int .i64 (q:Int)]) (by simp[results,Tryz.f32,go_sem,hr0,hr1]) rfl (tpostB_own (ls:=ls++[⟨⟨kd,nn,pl,tx,rts ts⟩,w.heap.size+1+1⟩]) ?_ ?_ ?_ hb3 ?_)
   ·rw[fl_app]
    refine own_mono (base:=w.heap.size+3) ?_ (by omega)
    rw[show fl [⟨⟨kd,nn,pl,tx,rts ts⟩,w.heap.size+1+1⟩]=[.int .i64 kd,.int .i64 nn,.int .i64 pl,.string tx,.slice (some ⟨w.heap.size+1+1,0,none⟩) k k]by show AN.cv _++[]=_;unfold AN.cv;rw[hrl];rfl]
    exact ho3
   ·refine(ha3.mono (by omega)).app fun x hx =>?_
    obtain rfl:x=⟨⟨kd,nn,pl,tx,rts ts⟩,w.heap.size+1+1⟩:=by simpa using hx
    refine⟨by show w.heap.size≤w.heap.size+1+1;omega,?_⟩
    show Ib W3 (w.heap.size+1+1) (rts ts).length (fun i=>(rts ts).getD i 0)
    rw[hrl]
    refine hg3.congr fun i hi =>?_
    have h7:i<ts.length:=by rw[← HM.out];exact hi
    rw[if_pos hi];unfold rts;simp[List.getD,h7]
   ·rw[List.map_append,hov];rfl
   ·rw[HQ.out,HLEN.out,List.take_of_length_le (by rw[← HM.out];omega)]
def NdsE (g:Nat)(w:World)(A:Option Addr)(l:List Nd):Prop:=
 0<l.length→∃b off,A=some ⟨b,off,none⟩∧b≠g∧b<w.heap.size∧∀j (hj:j<l.length),∃K c,w.cell? ⟨b,off+j*5,none⟩=some (.int .i64 l[j].kd)∧w.cell? ⟨b,off+j*5+1,none⟩=some (.int .i64 l[j].n) ∧
  w.cell? ⟨b,off+j*5+2,none⟩=some (.int .i64 l[j].pl)∧w.cell? ⟨b,off+j*5+3,none⟩=some (.string l[j].tx)∧w.cell? ⟨b,off+j*5+4,none⟩=some (.slice K l[j].ks.length c)∧Ints w K l[j].ks∧(0<l[j].ks.length→∀a,K=some a→a.block≠g)
theorem NdsL.ne {B g:Nat}{w:World}{A:Option Addr}{l:List Nd}(h:NdsL B w A l)(hg:g<B):NdsE g w A l:=fun h0=>by
 obtain⟨b,off,e,hB,hl,hc⟩:=h h0
 refine⟨b,off,e,by omega,hl,fun j hj =>?_⟩
 obtain⟨K,c,c0,c1,c2,c3,c4,hK,hKB⟩:=hc j hj
 exact⟨K,c,c0,c1,c2,c3,c4,hK,fun _ a ha=>by have:=hKB a ha;omega⟩
theorem Nds.ne {g:Nat}{w:World}{A:Option Addr}{l:List Nd}(h:Nds w A l)(hg:w.heap.size≤g):NdsE g w A l:=fun h0=>by
 obtain⟨b,off,e,hl,hc⟩:=h h0
 refine⟨b,off,e,by omega,hl,fun j hj =>?_⟩
 obtain⟨K,c,c0,c1,c2,c3,c4,hK⟩:=hc j hj
 refine⟨K,c,c0,c1,c2,c3,c4,hK,fun h1 a ha =>?_⟩
 obtain⟨b2,o2,e2,hl2,_⟩:=hK h1
 rw[e2]at ha;cases ha
 show b2≠g
 omega
theorem NdsE.nds {g:Nat}{w:World}{A:Option Addr}{l:List Nd}(h:NdsE g w A l):Nds w A l:=fun h0=>by
 obtain⟨b,off,e,_,hl,hc⟩:=h h0
 refine⟨b,off,e,hl,fun j hj =>?_⟩
 obtain⟨K,c,c0,c1,c2,c3,c4,hK,_⟩:=hc j hj
 exact⟨K,c,c0,c1,c2,c3,c4,hK⟩
theorem NdsE.keep {g:Nat}{w w':World}{A:Option Addr}{l:List Nd}(h:NdsE g w A l)(hs:w.heap.size≤w'.heap.size)(hk:∀b,b<w.heap.size→b≠g→w'.heap[b]?=w.heap[b]?):NdsE g w' A l:=fun h0=>by
 obtain⟨b,off,e,hne,hl,hc⟩:=h h0
 have kb:=hk b hl hne
 refine⟨b,off,e,hne,Nat.lt_of_lt_of_le hl hs,fun j hj =>?_⟩
 obtain⟨K,c,c0,c1,c2,c3,c4,hK,hKB⟩:=hc j hj
 refine⟨K,c,(cell_same kb _).trans c0,(cell_same kb _).trans c1,(cell_same kb _).trans c2,(cell_same kb _).trans c3,(cell_same kb _).trans c4,fun h1 =>?_,hKB⟩
 obtain⟨b2,o2,e2,hl2,hc2⟩:=hK h1
 have kb2:=hk b2 hl2 (hKB h1 _ e2)
 exact⟨b2,o2,e2,Nat.lt_of_lt_of_le hl2 hs,fun j hj=>(cell_same kb2 _).trans (hc2 j hj)⟩
theorem NdsL.nds {B:Nat}{w:World}{A:Option Addr}{l:List Nd}(h:NdsL B w A l):Nds w A l:=fun h0=>by
 obtain⟨b,off,e,_,hl,hc⟩:=h h0
 refine⟨b,off,e,hl,fun j hj =>?_⟩
 obtain⟨K,c,c0,c1,c2,c3,c4,hK,_⟩:=hc j hj
 exact⟨K,c,c0,c1,c2,c3,c4,hK⟩
end
end Go.Proofs.YteecfjhjllajlaaGreatDoor.Tr
namespace Go.Proofs.YteecfjhjllajlaaGreatDoor
section
open Go Go.RowKit
open Tr (Bx heap1 bt Nds Ints BPost IPost VPost Snd rgB dpt ovL ovA Trs mvN)
theorem info25t:(Tryz.prog.info? 25).map (fun i=>(i.zero,i.size,i.bytes))=some (some (.agg #[.slice none 0 0,.int .i64 0]),2,32):=by kernel_rfl
def zT:Array Value := #[.slice none 0 0,.int .i64 0]
theorem make42 (n:Nat)(hn:n≤4000000000)(w:World):(Instr.makeSlice 42 (.int .i64 (n:Int)) (.int .i64 (n:Int))).run Tryz.prog w = .ok (.slice (some ⟨w.heap.size,0,none⟩) n n) (w.alloc (.cells (madeCells zT (n*2)) 25)):=by
 have h:=info25t
 cases hq:Tryz.prog.info? 25 with
 |none=>rw[hq]at h;cases h
 |some i=>
  rw[hq]at h
  simp only[Option.map_some,Option.some.injEq,Prod.mk.injEq]at h
  obtain⟨h1,h2,h3⟩:=h
  have:=run_make (P:=Tryz.prog) w 42 25 i _ Tryz.underlying42 hq h1 .i64 .i64 (n:Int) (n:Int) (by omega) (Int.le_refl _) (by rw[h3];omega) (by omega)
  rw[this,h2]
  simp only[Int.toNat_natCast]
  rw[show(Value.agg #[.slice none 0 0,.int .i64 0]).cells=zT by rfl]
def mkT (n:Nat)(m:Nat→Nat→Value):Array Value:=Array.ofFn (n:=n*2) fun i=>m (i / 2) (i % 2)
theorem mkT_size (n:Nat)(m:Nat→Nat→Value):(mkT n m).size=n*2:=by simp[mkT]
theorem mkT_get {n:Nat}{m:Nat→Nat→Value}{j f:Nat}(hj:j<n)(hf:f<2):(mkT n m)[j*2+f]?=some (m j f):=by
 have h:j*2+f<n*2:=by omega
 simp only[mkT,Array.getElem?_ofFn,h,dif_pos]
 rw[show(j*2+f) / 2=j by omega,show(j*2+f) % 2=f by omega]
theorem mkT_congr {n:Nat}{m m':Nat→Nat→Value}(h:∀j f,j<n→f<2→m j f=m' j f):mkT n m=mkT n m':=by
 unfold mkT;congr 1;funext i;exact h _ _ (by have:=i.2;omega) (by omega)
theorem mkT_set {n:Nat}{m:Nat→Nat→Value}{j f:Nat}{v:Value}(hf:f<2):(mkT n m).setIfInBounds (j*2+f) v=mkT n (fun i g=>if i=j∧g=f then v else m i g):=by
 apply Array.ext_getElem?
 intro k
 rw[Array.getElem?_setIfInBounds]
 by_cases hk:k<n*2
 ·have e1:k=k / 2*2+k % 2:=by omega
  have h1:=mkT_get (m:=fun i g=>if i=j∧g=f then v else m i g) (j:=k / 2) (f:=k % 2) (n:=n) (by omega) (by omega)
  have h2:=mkT_get (m:=m) (j:=k / 2) (f:=k % 2) (n:=n) (by omega) (by omega)
  rw[← e1]at h1 h2
  rw[h1,h2,mkT_size]
  by_cases e:j*2+f=k
  ·rw[if_pos e,if_pos (by omega),if_pos (by omega)]
  ·rw[if_neg e,if_neg (by omega)]
 ·rw[Array.getElem?_eq_none (by rw[mkT_size];omega),Array.getElem?_eq_none (by rw[mkT_size];omega),mkT_size]
  split
  ·rw[if_neg (by omega)]
  ·rfl
def Ob (w:World)(g n:Nat)(m:Nat→Nat→Value):Prop:=w.heap[g]?=some (.cells (mkT n m) 25 (0,0))
section
variable {w w':World} {g n:Nat} {m:Nat→Nat→Value}
theorem Ob.lt (h:Ob w g n m):g<w.heap.size:=(Array.getElem?_eq_some_iff.1 h).1
theorem Ob.cell (h:Ob w g n m){j f:Nat}(hj:j<n)(hf:f<2):w.cell? ⟨g,j*2+f,none⟩=some (m j f):=(cell_of_row w g _ _ 25 (0,0) h).trans (mkT_get hj hf)
theorem Ob.frozen (h:Ob w g n m)(i:Nat):w.frozen? ⟨g,i,none⟩=false:=frozen_of_row w g i _ 25 h
theorem Ob.set_ (h:Ob w g n m)(j f:Nat)(hf:f<2)(v:Value):Ob (w.setCell ⟨g,j*2+f,none⟩ v) g n (fun i k=>if i=j∧k=f then v else m i k):=(heap_setCell_same w g _ _ 25 _ h).trans (by rw[mkT_set hf])
theorem Ob.far (h:Ob w g n m){p:Addr}(hp:g≠p.block)(u:Value):Ob (w.setCell p u) g n m:=(heap_setCell_other w p g u hp).trans h
theorem Ob.same (h:Ob w g n m)(hg:w'.heap[g]?=w.heap[g]?):Ob w' g n m:=hg.trans h
theorem Ob.grown {row:Option Nat}(h:Ob w g n m)(hb:w.grownBy w' row)(hg:some g≠row):Ob w' g n m:=(hb.block g h.lt hg).trans h
theorem Ob.alloc (h:Ob w g n m)(o:Obj):Ob (w.alloc o) g n m:=h.grown (World.grownBy_alloc w o none) (by simp)
theorem Ob.congr {m':Nat→Nat→Value}(h:Ob w g n m)(e:∀j f,j<n→f<2→m j f=m' j f):Ob w g n m':=by unfold Ob at *;rw[h,mkT_congr e]
end
theorem made42 (n:Nat):madeCells zT (n*2)=mkT n (fun _ f=>zT[f]!):=by
 apply Array.ext_getElem?
 intro k
 by_cases hk:k<n*2
 ·simp only[madeCells,mkT,Array.getElem?_ofFn,hk,dif_pos]
  simp[hk,zT]
 ·rw[Array.getElem?_eq_none (by simp[madeCells];omega),Array.getElem?_eq_none (by rw[mkT_size];omega)]
def Few (l:List Tr.Nd):Prop:=l.length≤4000∧∀x ∈ l,x.ks.length≤4000
theorem few_up {l:List Tr.Nd}{r kd n pl:Int}{tx:ByteArray}(h:Few l)(hl:l.length≤3999):Few (ovL kd n pl tx [(l,r)])∧(ovL kd n pl tx [(l,r)]).length=l.length+1:=by
 have e:ovA [(l,r)]=l.map (mvN 0):=by simp[ovA]
 have e2:(ovL kd n pl tx [(l,r)]).length=l.length+1:=by unfold ovL;rw[e];simp
 refine⟨⟨by omega,fun x hx =>?_⟩,e2⟩
 unfold ovL at hx
 rw[e]at hx
 rcases List.mem_append.1 hx with hx |hx
 ·obtain⟨y,hy,rfl⟩:=List.mem_map.1 hx
  show(y.ks.map _).length≤4000
  rw[List.length_map];exact h.2 y hy
 ·rw[List.mem_singleton.1 hx]
  show(Tr.rts [(l,r)]).length≤4000
  unfold Tr.rts
  simp
theorem over_up (kd nn pl:Int)(tx:ByteArray)(K0:Option Addr)(n0 c0:Nat)(g:Nat)(A:Option Addr)(c:Nat)(l:List Tr.Nd)(r:Int)(w:World)(hB:Bx w g 25 [.slice A l.length c,.int .i64 r])(hN:Nds w A l)(hf:Few l) :
  Calls Tryz.prog 32 #[.agg #[.int .i64 kd,.int .i64 nn,.int .i64 pl,.string tx,.slice K0 n0 c0],.slice (some ⟨g,0,none⟩) 1 1] w (Tr.TPostB (ovL kd nn pl tx [(l,r)]) (l.length:Int) w):=by
 have e:(ovA [(l,r)]).length=l.length:=by simp[ovA]
 have h1:=Tr.over_anyB kd nn pl tx K0 n0 c0 (some ⟨g,0,none⟩) 1 1 [(l,r)] w (fun _=>⟨g,0,rfl,(Array.getElem?_eq_some_iff.1 hB).1,fun j hj=>by
  obtain rfl:j=0:=by simp at hj;omega
  exact⟨A,c,(hB.cell 0).trans rfl,(hB.cell 1).trans rfl,hN⟩⟩) rfl (by omega) (fun t ht=>by rw[List.mem_singleton.1 ht];exact hf) (by rw[e];have:=hf.1;omega) (fun i=>by
   rcases i with _ |i
   ·exact Nat.zero_le _
   ·rw[show List.take (i+1) [(l,r)]=[(l,r)]by simp,e];have:=hf.1;omega)
 rw[e]at h1
 exact h1
theorem over_leaf (K0:Option Addr)(n0 c0:Nat)(w:World):Calls Tryz.prog 32 #[.agg #[.int .i64 22,.int .i64 0,.int .i64 0,.string ⟨#[120]⟩,.slice K0 n0 c0],.slice none 0 0] w (Tr.TPost [leafN] 0 w):=
 Tr.over_any 22 0 0 ⟨#[120]⟩ K0 n0 c0 none 0 0 [] w (fun h=>absurd h (Nat.lt_irrefl 0)) rfl (by omega) (fun t ht=>by cases ht) (Nat.zero_le _) (fun i=>by rw[List.take_nil];exact Nat.zero_le _)
structure LvI (w:World) (m i:Nat) (NB:List Value) (wr:World):Prop where
 bx:Bx wr w.heap.size 37 NB
 ob:∃(A:Nat→Option Addr) (c:Nat→Nat),Ob wr (w.heap.size+1) m (fun j f=>if j<i then (if f=0 then .slice (A j) 1 (c j) else .int .i64 0) else zT[f]!)∧∀j,j<i→Nds wr (A j) [leafN]
 bl:Below w.heap.size w wr
theorem LvI.trs {w wr:World}{m:Nat}{NB:List Value}(h:LvI w m m NB wr):Trs wr (some ⟨w.heap.size+1,0,none⟩) (List.replicate m ([leafN],0)):=fun h0=>by
 obtain⟨A,c,hO,hN⟩:=h.ob
 refine⟨_,0,rfl,hO.lt,fun j hj =>?_⟩
 have hj2:j<m:=by simpa using hj
 have e0:=hO.cell hj2 (f:=0) (by omega)
 have e1:=hO.cell hj2 (f:=1) (by omega)
 simp only[hj2,if_true]at e0 e1
 rw[Nat.add_zero]at e0
 refine⟨A j,c j,?_,?_,?_⟩
 ·rw[Nat.zero_add];simpa using e0
 ·rw[Nat.zero_add];simpa using e1
 ·simpa using hN j hj2
theorem LvI.step {w wr w':World}{m i:Nat}{NB:List Value}{A':Option Addr}{c':Nat}(h:LvI w m i NB wr)(hb:Below wr.heap.size wr w')(hN:Nds w' A' [leafN]):LvI w m (i+1) NB ((w'.setCell ⟨w.heap.size+1,i*2,none⟩ (.slice A' 1 c')).setCell ⟨w.heap.size+1,i*2+1,none⟩ (.int .i64 0)):=by
 obtain⟨A,c,hO,hNs⟩:=h.ob
 have hO2:Ob w' (w.heap.size+1) m _:=hO.same (hb.block _ hO.lt)
 have hlt:=hO2.lt
 have h1:=hO2.set_ i 0 (by decide) (.slice A' 1 c')
 rw[Nat.add_zero]at h1
 have h2:=h1.set_ i 1 (by decide) (.int .i64 0)
 have hk:∀(b2:Nat),b2≠w.heap.size+1→((w'.setCell ⟨w.heap.size+1,i*2,none⟩ (.slice A' 1 c')).setCell ⟨w.heap.size+1,i*2+1,none⟩ (.int .i64 0)).heap[b2]?=w'.heap[b2]?:=fun b2 hb2=>by
  rw[heap_setCell_other _ _ b2 _ hb2,heap_setCell_other _ _ b2 _ hb2]
 have hsz:((w'.setCell ⟨w.heap.size+1,i*2,none⟩ (.slice A' 1 c')).setCell ⟨w.heap.size+1,i*2+1,none⟩ (.int .i64 0)).heap.size=w'.heap.size:=by
  rw[World.size_setCell,World.size_setCell]
 have hnk:∀ {B:Option Addr} {l:List Tr.Nd},Nds w' B l→l=[leafN]→Nds ((w'.setCell ⟨w.heap.size+1,i*2,none⟩ (.slice A' 1 c')).setCell ⟨w.heap.size+1,i*2+1,none⟩ (.int .i64 0)) B l:=fun {B l} hB hl h0=>by
  subst hl
  obtain⟨b2,off,e,hl2,hc⟩:=hB h0
  have hne:b2≠w.heap.size+1:=fun e2=>by
   obtain⟨K,c2,q0,_⟩:=hc 0 (by decide)
   rw[Nat.zero_mul,Nat.add_zero]at q0
   rw[e2]at q0
   have q1:=(cell_of_row w' _ off _ 25 (0,0) hO2).symm.trans q0
   by_cases ho:off<m*2
   ·have q2:=mkT_get (n:=m) (m:=fun j f=>if j<i then (if f=0 then .slice (A j) 1 (c j) else .int .i64 0) else zT[f]!) (j:=off / 2) (f:=off % 2) (by omega) (by omega)
    rw[show off / 2*2+off % 2=off by omega,q1]at q2
    injection q2 with q2
    have h3:off % 2=0∨off % 2=1:=by omega
    rcases h3 with e3 |e3<;>rw[e3]at q2
    ·split at q2
     ·cases q2
     ·cases q2
    ·split at q2
     ·injection q2 with _ q2;exact absurd q2 (by decide)
     ·injection q2 with _ q2;exact absurd q2 (by decide)
   ·rw[Array.getElem?_eq_none (by rw[mkT_size];omega)]at q1;cases q1
  refine⟨b2,off,e,by rw[hsz];exact hl2,fun j hj =>?_⟩
  obtain⟨K,c2,q0,q1,q2,q3,q4,q5⟩:=hc j hj
  have hcell:∀o,((w'.setCell ⟨w.heap.size+1,i*2,none⟩ (.slice A' 1 c')).setCell ⟨w.heap.size+1,i*2+1,none⟩ (.int .i64 0)).cell? ⟨b2,o,none⟩=w'.cell? ⟨b2,o,none⟩:=fun o=>Tr.cell_same (hk b2 hne) o
  refine⟨K,c2,(hcell _).trans q0,(hcell _).trans q1,(hcell _).trans q2,(hcell _).trans q3,(hcell _).trans q4,fun h1 =>?_⟩
  obtain rfl:j=0:=by simp at hj;omega
  exact absurd h1 (by simp[leafN])
 refine⟨(hk _ (by omega)).trans ((hb.block _ (Array.getElem?_eq_some_iff.1 h.bx).1).trans h.bx),⟨fun j=>if j=i then A' else A j,fun j=>if j=i then c' else c j,h2.congr fun j f hj hf =>?_,fun j hj =>?_⟩,?_⟩
 ·by_cases e:j=i
  ·subst e
   have:f=0∨f=1:=by omega
   rcases this with e |e<;>subst e<;>simp
  ·have e2:(j<i+1)↔(j<i):=by omega
   simp[e,e2]
 ·by_cases e:j=i
  ·subst e
   simp only[if_true]
   exact hnk hN rfl
  ·simp only[e,if_false]
   exact hnk ((hNs j (by omega)).below hb) rfl
 ·have hsz2:=h.bl.size
  have hsz3:=hb.size
  exact⟨hb.os.trans h.bl.os,hb.tape.trans h.bl.tape,hb.output.trans h.bl.output,by rw[hsz];omega,fun b2 hb2=>(hk b2 (by omega)).trans ((hb.block b2 (by omega)).trans (h.bl.block b2 hb2))⟩
end
end Go.Proofs.YteecfjhjllajlaaGreatDoor
