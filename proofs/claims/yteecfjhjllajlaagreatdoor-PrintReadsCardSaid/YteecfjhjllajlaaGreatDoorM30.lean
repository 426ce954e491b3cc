/- PROVED: Yp Zt TrOw Yq Yr Ys Yt. No more condition. -/
import Derived.Test.YteecfjhjllajlaaGreatDoorM24
import Derived.Test.YteecfjhjllajlaaGreatDoorM29
set_option maxHeartbeats 8000000
set_option maxRecDepth 100000
namespace Go.Proofs.YteecfjhjllajlaaGreatDoor
open Go.Lib (hid)
open Go Go.RowKit
section
open Tr (Bx aa bt eH Ints dK aM bP gV lF dpt)
def Tb (w:World):Prop:=∀w',Below w.heap.size w w'->Lib.TabIs Tryz.prog w' "internal/strconv.uint64pow10" .u64 Lib.pow10Tab
theorem Tb.below {w w':World}(h:Tb w)(hb:Below w.heap.size w w'):Tb w':=λ_ q=>h _ (bt hb q)
theorem uR.below {w w':World}{A:Option Addr}{l:List Tr.Nd}(h:uR w A l)(hN:eH w A l)(hb:Below w.heap.size w w'):uR w' A l:=λp bA off K m c hp hA hc hk hm=>by
 obtain⟨b,o,e,hlt,hcell⟩:=hN (by omega);obtain⟨K',c',_,_,_,_,h4,_⟩:=hcell p hp;rw[hA]at e;injection e with e
 injection e with e1 e2
 subst e1 e2;have h5:=((hb.cell (p:=⟨bA,off+p*5+4,none⟩) hlt).trans h4).symm.trans hc;injection h5 with h5
 injection h5 with x1 x2 x3
 subst x1 x2 x3;exact h p bA off _ _ _ hp hA h4 hk hm
structure BK (w:World) (A:Option Addr) (n:Nat) (l:List Tr.Nd):Prop where
 nds:eH w A l
 len:n=l.length
 kids:∀x ∈ l,x.ks.length<=4000
 text:∀x ∈ l,x.tx.size<=281474976710656
 num:∀x ∈ l,x.n<=9223372036854775807
 caps:uR w A l
 tab:Tb w
theorem BK.below {w w':World}{A:Option Addr}{n:Nat}{l:List Tr.Nd}(h:BK w A n l)(hb:Below w.heap.size w w'):BK w' A n l:=
 ⟨h.nds.below hb,h.len,h.kids,h.text,h.num,h.caps.below h.nds hb,h.tab.below hb⟩
theorem BK.right {w:World}{A:Option Addr}{n:Nat}{l:List Tr.Nd}(h:BK w A n l)(c:Nat)(r:Int):Calls Tryz.prog 27 #[.agg #[.slice A n c,.int .i64 r]] w (dK (lF l r) w):=Tr.xe A c n l r w h.nds h.len h.kids h.text h.num
structure RgOk (l:List Tr.Nd) (r:Int):Prop where
 snd:gV l r
 dep:dpt l r<=40
 root:(ag l ((l.length-1:Nat):Int)).kd=1
 sh:Tr.iX l=true
theorem xg {l:List Tr.Nd}{r:Int}(h:lF l r=true):RgOk l r:=by
 unfold lF at h;simp only[Bool.and_eq_true,decide_eq_true_eq]at h;exact⟨rF.1 h.1,h.2.1,by unfold ag;rw[Int.toNat_natCast];exact h.2.2.1,h.2.2.2⟩
theorem Dj {l:List Tr.Nd}{r:Int}(h:gV l r):∃S,Kv l S:=by
 obtain⟨b,h1,h2,h3,hS,h0⟩:=h;exact⟨_,Oe hS (λq hq=>hS.le q hq) h2⟩
noncomputable def eZ (l:List Tr.Nd)(r:Int):List UInt8:=if lF l r then lG l l.length r else []
theorem BK.px {w:World}{A:Option Addr}{n:Nat}{l:List Tr.Nd}(h:BK w A n l){r:Int}(hs:gV l r)(hx:FH l):nR w A l n:=⟨h.nds,h.len,by have:=(jr hs).2.1;have:=h.len;omega,hx,h.tab⟩
theorem BK.sh {w:World}{A:Option Addr}{n:Nat}{l:List Tr.Nd}(h:BK w A n l){r:Int}(hs:gV l r)(hh:Tr.iX l=true):sM l:=Gp (jM hs) hh h.num h.kids
theorem mI (A:Option Addr)(n c:Nat)(l:List Tr.Nd)(r:Int)(w:World)(h:BK w A n l):Calls Tryz.prog 21 #[.agg #[.slice A n c,.int .i64 r]] w (bP (.string (lZ (eZ l r))) w):=by
 have hn:=h.len;subst hn;have hb0:=aa w (.cells #[.slice A l.length c,.int .i64 r] 25);have HR:=hid ((h.below hb0).right c r);have HX:=hid (Bx.new w 25 [.slice A l.length c,.int .i64 r]);have HB0:=hid hb0;have H:=hid h;cases hr:lF l r with
 |false=>
  have e:eZ l r=[]:=by unfold eZ;rw[hr];rfl
  rw[e];rw[hr]at HR;clear e hr hb0 h;go_enter Tryz.func21,Tryz.ntmps21
  go_wp2_with (go_at_call 27;refine HR.out.mono ?_);rintro e w1 ⟨rfl,hb1⟩;have HB1:=hid (bt HB0.out hb1);clear hb1;go_wp2
  go_ret
  exact⟨rfl,HB1.out⟩
 |true=>
  have hok:=xg hr;have e:eZ l r=lG l l.length r:=by unfold eZ;rw[hr];rfl
  rw[e];rw[hr]at HR;obtain⟨hl1,hl2,hr1⟩:=jr hok.snd;have hrn:r=((l.length-1:Nat):Int):=by omega
  have hroot:=hok.root;rw[<- hrn]at hroot;obtain⟨S,hS⟩:=Dj hok.snd;have hsh:=h.sh hok.snd hok.sh;have hlen:(lG l l.length r).length<=2800000000:=by
   rw[hrn];rw[hrn]at hroot;exact Gr hok.sh hsh hS hl2 _ _ (by omega) hroot
  have HC:=hid (show∀w2,Below w.heap.size w w2->Calls Tryz.prog 60 #[.agg #[.slice A l.length c,.int .i64 r],.int .i64 r,.func (.func 61) #[] #[]] w2 λe w'=>e=.returned (.string (lZ (lG l l.length r)))/\Below w2.heap.size w2 w' from λw2 q=>by
   have hin:=(h.below q).below (aa w2 (.cells #[.slice A l.length c,.int .i64 r] 25))
   have hpx:=hin.px hok.snd hsh.ex
   have hcp:=hin.caps
   by_cases hks:(ag l r).ks=[]
   ·rw[GA hks]
    refine vo A l.length c r r w2 _ rfl λw' q' =>?_
    rw[hrn]at hks |-
    exact yF c _ hpx _ w' (by omega) hks q'
   ·refine yG A l.length c r r _ w2 _ rfl (KR hks) λw' q' hp' =>?_
    have:=BG c _ hpx hcp hsh (l.length-1) [] w' (by omega) (by rw[<- hrn];exact hroot) q' hp' (by rw[<- hrn];show 0+_<=_;omega)
    rw[<- hrn,List.nil_append]at this
    exact this)
  clear hlen hsh hS hroot hrn hr1 hl1 hl2 e hok hr hb0 h;generalize lG l l.length r=y at *
  have e0:=(HX.out.cell 0).trans rfl;have e1:=(HX.out.cell 1).trans rfl;go_enter Tryz.func21,Tryz.ntmps21
  go_wp2_with (go_at_call 27;refine HR.out.mono ?_);rintro e w1 ⟨rfl,hb1⟩;have HB1:=hid (bt HB0.out hb1);have hx1:=HX.out.below hb1 (by rw[World.size_alloc];omega);clear e0 e1;have e0:=(hx1.cell 0).trans rfl;have e1:=(hx1.cell 1).trans rfl;clear hb1 hx1;go_wp2_with (go_at_call 60;refine(HC.out w1 HB1.out).mono ?_);rintro e w2 ⟨rfl,hb2⟩;have HB2:=hid (bt HB1.out hb2);clear hb2 e0 e1;go_wp2
  go_ret
  exact⟨rfl,HB2.out⟩
end
section
open Go Go.ChangeShapes Go.WideShapes Go.ChangeAt Go.RowKit
open Tr (bP dpt)
theorem g10:Tryz.prog.globalNamed "internal/strconv.uint64pow10" = some 0:=by kernel_rfl
theorem Tj:(Rows.laid_internal_strconv_uint64pow10:DataW Unit)=Lib.tabData .u64 Lib.pow10Tab:=by kernel_rfl
theorem Sy:Tryz.prog.underlying 227=some (.array 20 188):=by kernel_rfl
theorem SA:Tryz.prog.underlying 188=some (.int .u64):=by kernel_rfl
theorem zY {n:String}{g:Nat}{k:IntKind}{zs:List Int}{w w':World}(hg:Tryz.prog.globalNamed n=some g)(h:Lib.TabIs Tryz.prog w n k zs)(hb:Below w.heap.size w w'):Lib.TabIs Tryz.prog w' n k zs:=by
 unfold Lib.TabIs World.var? at h |-;rw[hg]at h |-;simp only[Option.bind_some]at h |-;have hlt:g<w.heap.size:=by
  rcases Nat.lt_or_ge g w.heap.size with h' |h'
  ·exact h'
  ·rw[Array.getElem?_eq_none h']at h;cases h
 rw[hb.block g hlt];exact h
theorem BL {W:World}(h:laidMetH Tryz.prog qQ W):Tb W:=by
 rw[MakeChecks.laidMetH_plain _ _ _ (by kernel_rfl)]at h;obtain⟨ps,hv,_⟩:=h;obtain⟨g,t,cs,fuel,p,h1,h2,h3,h4⟩:=mY hv "internal/strconv.uint64pow10" Rows.laid_internal_strconv_uint64pow10 (by simp[qQ]);obtain rfl:0=g:=Option.some.inj (g10.symm.trans h1);obtain rfl:227=t:=Option.some.inj ((show(Tryz.prog.globals[0]?).map (·.type)=some 227 by kernel_rfl).symm.trans h2);rw[Tj]at h4;have hc:=Lib.cells_of_tab Sy SA (by kernel_rfl) (by kernel_rfl) h4;have h5:Lib.TabIs Tryz.prog W "internal/strconv.uint64pow10" .u64 Lib.pow10Tab:=by
  unfold Lib.TabIs;rw[h3,<- hc]
 exact λw' hb=>zY g10 h5 hb
theorem vF (a:List UInt8):(lZ a).data.toList=a:=by simp[lZ]
theorem rQ (a:List UInt8):(lZ a).size=a.length:=by simp[lZ,ByteArray.size]
end
namespace Tr
def BM (B:Nat)(w:World)(A:Option Addr)(l:List Nd):Prop:=
 0<l.length->∃b off,A=some ⟨b,off,none⟩/\B<=b/\b<w.heap.size/\∀j (hj:j<l.length),∃K c,w.cell? ⟨b,off+j*5,none⟩=some (.int .i64 l[j].kd)/\w.cell? ⟨b,off+j*5+1,none⟩=some (.int .i64 l[j].n) /\
  w.cell? ⟨b,off+j*5+2,none⟩=some (.int .i64 l[j].pl)/\w.cell? ⟨b,off+j*5+3,none⟩=some (.string l[j].tx)/\w.cell? ⟨b,off+j*5+4,none⟩=some (.slice K l[j].ks.length c)/\Ints w K l[j].ks/\∀a,K=some a->B<=a.block
def yK (l:List Nd)(r:Int)(w:World)(e:Ending)(w':World):Prop:=∃A c,e=.returned (.agg #[.slice A l.length c,.int .i64 r])/\BM w.heap.size w' A l/\l.length<=c/\Below w.heap.size w w'
theorem Il {base:Nat}{w:World}{v:Value}{ls:List AN}(h:w.ownsRow base 37 5 v ls.length (fl ls))(hA:Al base w ls):∃A c,v=.slice A ls.length c/\BM base w A (ls.map AN.nd):=by
 rcases h.2 with⟨rfl,e⟩ |⟨g,cap,cur,rfl,hb,hg,hn,_,_,ht⟩
 ·exact⟨none,0,by rw[e],λh0=>by simp at h0;omega⟩
 ·refine⟨_,_,rfl,λh0 =>?_⟩;refine⟨g,0,rfl,hb,(Array.getElem?_eq_some_iff.1 hg).1,λj hj =>?_⟩;have hj':j<ls.length:=by simpa using hj
  have key:∀f,f<5->w.cell? ⟨g,0+j*5+f,none⟩=(ls[j].cv)[f]?:=λf hf=>by
   rw[cell_of_row w g _ cur 37 (0,0) hg,Nat.zero_add,<- yx ls j f hj' hf,<- ht,List.getElem?_take,if_pos (by omega)];simp
  rw[List.getElem_map];exact⟨_,_,key 0 (by decide),key 1 (by decide),key 2 (by decide),key 3 (by decide),key 4 (by decide),(hA _ (List.getElem_mem _)).2.ints',λa ha=>by cases ha;exact(hA _ (List.getElem_mem _)).1⟩
theorem BN {n:Nat}{c:Nat}{A:Option Addr}{ls:List AN}{l:List Nd}{r r':Int}{w w':World}(h:w'.ownsRow w.heap.size 37 5 (.slice A n c) n (fl ls))(hA:Al w.heap.size w' ls)(hm:ls.map AN.nd=l)(hb:Below w.heap.size w w')(hr:r=r'):yK l r w (.returned (.agg #[.slice A n c,.int .i64 r'])) w':=by
 have hl:ls.length=n:=by have:=h.1;rw[fl_len]at this;omega
 have hl2:l.length=n:=by rw[<- hm,List.length_map,hl]
 subst hr;have h':=h;rw[<- hl]at h';obtain⟨A',c',e,hN⟩:=Il h' hA;rw[hl]at e;cases e;rw[hm]at hN;have hc:n<=c:=by
  rcases h.2 with⟨e1,e2⟩ |⟨g,cap,cur,e1,_,_,h3,_⟩
  ·omega
  ·cases e1;exact h3
 exact⟨A,c,by rw[hl2],hN,by omega,hb⟩
theorem EH (kd nn pl:Int)(tx:ByteArray)(K0:Option Addr)(n0 c0:Nat)(A:Option Addr)(m c:Nat)(ts:List Tr)(w:World)(hT:KG w A ts)(hm:m=ts.length)(hm2:m<=4000)(ht:∀t ∈ ts,t.1.length<=4000/\∀x ∈ t.1,x.ks.length<=4000)(hs:(mW ts).length<=10000000)(hs2:∀i,(mW (ts.take i)).length<=10000000) :
  Calls Tryz.prog 32 #[.agg #[.int .i64 kd,.int .i64 nn,.int .i64 pl,.string tx,.slice K0 n0 c0],.slice A m c] w (yK (jZ kd nn pl tx ts) ((mW ts).length:Int) w):=by
 obtain⟨i0,hi,hz0,hz1,hz2⟩:=info_parts sF;have e0:∀(w':World) (o:Obj),(w'.alloc o).heap.size=w'.heap.size+1:=λw' o=>World.size_alloc w' o
 have HT:=hid hT;have HM:=hid hm;have HTS:=hid ht;have HS:=hid hs;have HS2:=hid hs2;clear hT hm ht hs hs2;have hmk:=λw'=>sD m (by omega) w'
 go_enter Tryz.func32,Tryz.ntmps32
 go_wp2;clear hmk
 go_loopw [5,14] (λv i wr=>∃(k:Nat) (ls:List AN),k<=m/\i=.int .i64 (k:Int)/\KH w m [.int .i64 kd,.int .i64 nn,.int .i64 pl,.string tx,.slice K0 n0 c0] ts k v ls wr) (λ_ i _=>m-(intOf i).toNat)
 case atStart=>
  refine⟨0,[],Nat.zero_le _,rfl,((Bx.new w 37 _).alloc _).alloc _,?_,?_,World.ownsRow_nil _ _ _ _,λx hx=>(by cases hx),rfl,((aa w _).alloc (by rw[e0];omega) _).alloc (by rw[e0,e0];omega) _⟩
  ·have:=(Bx.new (w.alloc (.cells #[.int .i64 kd,.int .i64 nn,.int .i64 pl,.string tx,.slice K0 n0 c0] 37)) 25 [.slice none 0 0,.int .i64 0]).alloc (.cells (wm m λ_=>0) 3);rw[e0]at this;exact this
  ·have:=World.alloc_heap_new ((w.alloc (.cells #[.int .i64 kd,.int .i64 nn,.int .i64 pl,.string tx,.slice K0 n0 c0] 37)).alloc (.cells #[.slice none 0 0,.int .i64 0] 25)) (.cells (wm m λ_=>0) 3);rw[e0,e0]at this;exact(show Ib _ _ _ _ from this).congr λi _=>(if_neg (Nat.not_lt_zero i)).symm
 case round=>
  obtain⟨k,ls,hk,rfl,hO⟩:=hrel;obtain⟨V,cV,rfl⟩:=jJ hO.o;have HLEN:=hid (show ls.length=(mW (ts.take k)).length by rw[<- hO.e,List.length_map]);have hlb:ls.length<=10000000:=by rw[HLEN.out];exact HS2.out k
  obtain⟨q,hq⟩:∃q,q=ls.length:=⟨_,rfl⟩;have HQ:=hid hq;rw[<- hq]at hlb |-;clear hq;by_cases hlt:k<m
  ·have hlz:(k:Int)<(m:Int):=by omega
   have hkt:k<ts.length:=by rw[<- HM.out];exact hlt
   obtain⟨bA,off,rfl,hbl,hc⟩:=HT.out (by omega);obtain⟨K,ck,d0',d1',hN⟩:=hc k hkt;have d0:=(hO.b.cell (p:=⟨bA,off+k*2,none⟩) hbl).trans d0';have d1:=(hO.b.cell (p:=⟨bA,off+k*2+1,none⟩) hbl).trans d1';clear d0' d1';obtain⟨ht1,ht2⟩:=HTS.out _ (List.getElem_mem hkt);have HTK:=hid (show ts.getD k ([],0)=ts[k]by simp[List.getD,hkt]);have HTT:=hid (show ts.take (k+1)=ts.take k++[ts[k]]from List.take_succ_eq_append_getElem hkt);clear hc;generalize ts[k]=t at *
   obtain⟨tn,tr⟩:=t;dsimp only at d0 d1 hN ht1 ht2;have HRT:=hid (show wrap64 ((q:Int)+tr)=Bi ts k by unfold Bi;rw[HTK.out,HQ.out,HLEN.out]);have hcg:=hO.g.cell hlt;have hfg:=hO.g.frozen k;have HP:=hid (hO.put hkt HRT.out);have HE:=hid hO.e;have HN:=hid hN;have hwz:w.heap.size+1+1<wr.heap.size:=hO.g.lt;clear hO hN
   go_upto_region 7 with(fail)
   refine au (λW=>Bx W wr.heap.size 25 [.slice K tn.length ck,.int .i64 tr]/\Bx W w.heap.size 37 [.int .i64 kd,.int .i64 nn,.int .i64 pl,.string tx,.slice K0 n0 c0]/\Bx W (w.heap.size+1) 25 [.slice none 0 0,.int .i64 0] /\
    Ib W (w.heap.size+1+1) m (λj=>if j<k+1 then Bi ts j else 0)/\W.ownsRow (w.heap.size+3) 37 5 (.slice V ls.length cV) ls.length (fl ls)/\Al (w.heap.size+3) W ls/\Below w.heap.size w W) ?_ ?_
   ·obtain⟨p1,p2,p3,p4,p5,p6⟩:=HP.out;have:=Bx.new (wr.setCell ⟨w.heap.size+1+1,k,none⟩ (.int .i64 (wrap64 ((q:Int)+tr)))) 25 [.slice K tn.length ck,.int .i64 tr];rw[World.size_setCell]at this;exact⟨this,p1.alloc _,p2.alloc _,p3.alloc _,own_below p4 (aa _ _),p5.alloc _,p6.alloc p6.size _⟩
   clear HP hcg hfg d0 d1;rintro W ⟨hX1,hx1,hr1,hg1,ho1,ha1,hb1⟩;have hN1:=HN.out.below hb1;have hc0:=hX1.cell 0;simp only[List.getElem?_cons_zero]at hc0;have HMV:=hid (wR K ck tn.length tn (q:Int) W hN1 rfl (by omega) ht2);clear hN1;go_wp2_with (go_at_call 79;refine HMV.out.mono ?_);clear HMV;rintro e w3 ⟨ms,rfl,hom,hmm,ham,hb3⟩;have hml:ms.length=tn.length:=by have:=congrArg List.length hmm;simpa using this
   have ho3:=own_below ho1 hb3;rw[<- HQ.out]at ho3;go_wp2_with (first
    |(at_builtin;refine wpList_append_own _ rfl _ _ 23 rfl (w.heap.size+3) 37 i0 (.agg #[.int .i64 0,.int .i64 0,.int .i64 0,.string ⟨#[]⟩,.slice none 0 0]) 5 64 Tryz.underlying23 hi hz0 hz1 hz2 rfl (by decide) _ _ _ rfl ho3 ⟨W.heap.size,0,none⟩ tn.length tn.length (fl ms) rfl (by rw[fl_len,hml]) (wS hom) (Gv ms) ?c3 ?c4 ?c5 ?_))
   case c3=>unfold maxLen;omega
   case c4=>omega
   case c5=>have:=hb3.size;have:=hX1.lt;omega
   intro v' w4 hown4 hgrow4 _;have hzW:w.heap.size+3<=W.heap.size:=by have:=hX1.lt;omega
   have hnb:∀b,b<w.heap.size+3->some b≠(Value.slice V q cV).ownBlock:=λb hb e=>by have:=(ho3.lt b e.symm).1;omega
   have hfin:KH w m [.int .i64 kd,.int .i64 nn,.int .i64 pl,.string tx,.slice K0 n0 c0] ts (k+1) v' (ls++ms) w4:=by
    refine⟨(hx1.below hb3 hx1.lt).grown hgrow4 (hnb _ (by omega)),(hr1.below hb3 hr1.lt).grown hgrow4 (hnb _ (by omega)),(hg1.below hb3 hg1.lt).grown hgrow4 (hnb _ (by omega)),?_,((ha1.below hb3).grown hgrow4 (kI ho3)).app ((ham.mono hzW).grown hgrow4 (kI ho3)),?_,?_⟩
    ·rw[List.length_append,yw,<- HQ.out,hml];exact hown4
    ·rw[List.map_append,HE.out,hmm,HTT.out,uT];have:((mW (ts.take k)).length:Int)=(q:Int):=by rw[HQ.out,HLEN.out]
     rw[this]
    ·exact(hb1.trans (hb3.mono hb1.size)).grown hgrow4 (by have:=hb1.size;have:=hb3.size;omega) (λb hb=>by have:=(ho3.lt b hb).1;omega)
   have HF:=hid hfin;clear hfin hown4 hgrow4 ho3 hnb hb3 ham hom hmm ha1 ho1 hg1 hr1 hx1 hX1 hc0;go_wp2
   go_roundw
   case rel=>exact⟨k+1,ls++ms,by omega,by go_num,HF.out⟩
   case measure=>simp[intOf];omega
  ·obtain rfl:k=m:=by omega
   have hlz:¬(k:Int)<(k:Int):=by omega
   have hcx:=hO.x.cell 4;have hfx:=hO.x.frozen 4;simp only[List.getElem?_cons_zero,List.getElem?_cons_succ]at hcx;have HO:=hid hO;clear hO
   go_upto_region 10 with(fail)
   refine au (λW=>Bx W w.heap.size 37 [.int .i64 kd,.int .i64 nn,.int .i64 pl,.string tx,.slice (some ⟨w.heap.size+1+1,0,none⟩) k k]/\Bx W (w.heap.size+1) 25 [.slice none 0 0,.int .i64 0] /\
    Ib W (w.heap.size+1+1) k (λj=>if j<k then Bi ts j else 0)/\W.ownsRow (w.heap.size+3) 37 5 (.slice V ls.length cV) ls.length (fl ls)/\Al (w.heap.size+3) W ls/\Below w.heap.size w W) ?_ ?_
   ·have h:=HO.out;exact⟨h.x.set_ 4 _,h.r.far (by show w.heap.size+1≠w.heap.size;omega) _,h.g.far (by show w.heap.size+1+1≠w.heap.size;omega) _,nu h.o (by omega),qi h.a (by omega),h.b.setCell (p:=⟨w.heap.size,4,none⟩) (Nat.le_refl _) _⟩
   have HE:=hid HO.out.e;clear HO hcx hfx;rintro W ⟨hx1,hr1,hg1,ho1,ha1,hb1⟩;have b0:=hx1.cell 0;have b1:=hx1.cell 1;have b2:=hx1.cell 2;have b3:=hx1.cell 3;have b4:=hx1.cell 4;simp only[List.getElem?_cons_zero,List.getElem?_cons_succ]at b0 b1 b2 b3 b4;rw[<- HQ.out]at ho1;have hzW:w.heap.size+3<=W.heap.size:=by have:=hg1.lt;omega
   have HH:=hid (And.intro hr1 (And.intro hg1 (And.intro ho1 (And.intro ha1 hb1))));clear hx1 hr1 hg1 ha1 hb1;go_wp2_with (first
    |(at_builtin;refine wpList_append_own _ rfl _ _ 23 rfl (w.heap.size+3) 37 i0 (.agg #[.int .i64 0,.int .i64 0,.int .i64 0,.string ⟨#[]⟩,.slice none 0 0]) 5 64 Tryz.underlying23 hi hz0 hz1 hz2 rfl (by decide) _ _ _ rfl (own_below ho1 (aa W _)) ⟨W.heap.size,0,none⟩ 1 1 [.int .i64 kd,.int .i64 nn,.int .i64 pl,.string tx,.slice (some ⟨w.heap.size+1+1,0,none⟩) k k] rfl rfl ?c1 ?c2 ?c3 ?c4 ?c5 ?_))
   case c2=>exact⟨rfl,rfl,rfl,rfl,rfl⟩
   case c3=>unfold maxLen;omega
   case c4=>omega
   case c5=>omega
   intro v' w4 hown4 hgrow4 _;obtain⟨A',c',rfl⟩:=jJ hown4;obtain⟨hr1,hg1,_,ha1,hb1⟩:=HH.out;have hoA:=own_below ho1 (aa W (.cells #[.int .i64 kd,.int .i64 nn,.int .i64 pl,.string tx,.slice (some ⟨w.heap.size+1+1,0,none⟩) k k] 37));have hnb:∀b,b<w.heap.size+3->some b≠(Value.slice V q cV).ownBlock:=λb hb e=>by have:=(hoA.lt b e.symm).1;omega
   have hr4:=(hr1.alloc _).grown hgrow4 (hnb _ (by omega));have hg4:=(hg1.alloc _).grown hgrow4 (hnb _ (by omega));have ha4:=(ha1.alloc _).grown hgrow4 (kI hoA);have hb4:=(hb1.alloc hb1.size _).grown hgrow4 (by rw[e0];omega) (λb hb=>by have:=(hoA.lt b hb).1;omega);have hcr0:=hr4.cell 0;have hcr1:=hr4.cell 1;have hfr0:=hr4.frozen 0;have hfr1:=hr4.frozen 1;simp only[List.getElem?_cons_zero,List.getElem?_cons_succ]at hcr0 hcr1;have HR4:=hid hr4;have HG4:=hid hg4;have HA4:=hid ha4;have HB4:=hid hb4;have HO4:=hid hown4;clear hr1 hg1 ha1 hb1 hoA hnb hr4 hg4 ha4 hb4 hown4 hgrow4 ho1 HH;go_wp2;have hE3:=(HR4.out.set_ 0 (.slice A' (q+1) c')).set_ 1 (.int .i64 (q:Int));have ho3:=nu (i:=1) (u :=.int .i64 (q:Int)) (nu (i:=0) (u :=.slice A' (q+1) c') HO4.out (show w.heap.size+1<w.heap.size+3 by omega)) (show w.heap.size+1<w.heap.size+3 by omega);have ha3:=qi (i:=1) (u :=.int .i64 (q:Int)) (qi (i:=0) (u :=.slice A' (q+1) c') HA4.out (show w.heap.size+1<w.heap.size+3 by omega)) (show w.heap.size+1<w.heap.size+3 by omega);have hg3:=(HG4.out.far (p:=⟨w.heap.size+1,0,none⟩) (by show w.heap.size+1+1≠w.heap.size+1;omega) (.slice A' (q+1) c')).far (p:=⟨w.heap.size+1,1,none⟩) (by show w.heap.size+1+1≠w.heap.size+1;omega) (.int .i64 (q:Int));have hb3:=(HB4.out.setCell (p:=⟨w.heap.size+1,0,none⟩) (by show _<=w.heap.size+1;omega) (.slice A' (q+1) c')).setCell (p:=⟨w.heap.size+1,1,none⟩) (by show _<=w.heap.size+1;omega) (.int .i64 (q:Int))
   generalize (w4.setCell ⟨w.heap.size+1,0,none⟩ (.slice A' (q+1) c')).setCell ⟨w.heap.size+1,1,none⟩ (.int .i64 (q:Int))=W3 at *
   have hr0:=hE3.cell 0;have hr1:=hE3.cell 1;simp only[List.set_cons_zero,List.set_cons_succ,List.getElem?_cons_zero,List.getElem?_cons_succ]at hr0 hr1;have hrl:(rts ts).length=k:=by unfold rts;rw[List.length_map,List.length_range];exact HM.out.symm
   have hov:ls.map AN.nd=mW ts:=by rw[HE.out,List.take_of_length_le (by rw[<- HM.out];omega)]
   refine bodyPost_ret (v :=.agg #[.slice A' (q+1) c',.int .i64 (q:Int)]) (by simp[results,Tryz.f32,go_sem,hr0,hr1]) rfl (BN (ls:=ls++[⟨⟨kd,nn,pl,tx,rts ts⟩,w.heap.size+1+1⟩]) ?_ ?_ ?_ hb3 ?_)
   ·rw[yw];refine zK (base:=w.heap.size+3) ?_ (by omega);rw[show fl [⟨⟨kd,nn,pl,tx,rts ts⟩,w.heap.size+1+1⟩]=[.int .i64 kd,.int .i64 nn,.int .i64 pl,.string tx,.slice (some ⟨w.heap.size+1+1,0,none⟩) k k]by show AN.cv _++[]=_;unfold AN.cv;rw[hrl];rfl];exact ho3
   ·refine(ha3.mono (by omega)).app λx hx =>?_
    obtain rfl:x=⟨⟨kd,nn,pl,tx,rts ts⟩,w.heap.size+1+1⟩:=by simpa using hx
    refine⟨by show w.heap.size<=w.heap.size+1+1;omega,?_⟩;show Ib W3 (w.heap.size+1+1) (rts ts).length (λi=>(rts ts).getD i 0);rw[hrl];refine hg3.congr λi hi =>?_
    have h7:i<ts.length:=by rw[<- HM.out];exact hi
    rw[if_pos hi];unfold rts;simp[List.getD,h7]
   ·rw[List.map_append,hov];rfl
   ·rw[HQ.out,HLEN.out,List.take_of_length_le (by rw[<- HM.out];omega)]
def zZ (g:Nat)(w:World)(A:Option Addr)(l:List Nd):Prop:=
 0<l.length->∃b off,A=some ⟨b,off,none⟩/\b≠g/\b<w.heap.size/\∀j (hj:j<l.length),∃K c,w.cell? ⟨b,off+j*5,none⟩=some (.int .i64 l[j].kd)/\w.cell? ⟨b,off+j*5+1,none⟩=some (.int .i64 l[j].n) /\
  w.cell? ⟨b,off+j*5+2,none⟩=some (.int .i64 l[j].pl)/\w.cell? ⟨b,off+j*5+3,none⟩=some (.string l[j].tx)/\w.cell? ⟨b,off+j*5+4,none⟩=some (.slice K l[j].ks.length c)/\Ints w K l[j].ks/\(0<l[j].ks.length->∀a,K=some a->a.block≠g)
theorem BM.ne {B g:Nat}{w:World}{A:Option Addr}{l:List Nd}(h:BM B w A l)(hg:g<B):zZ g w A l:=λh0=>by
 obtain⟨b,off,e,hB,hl,hc⟩:=h h0;refine⟨b,off,e,by omega,hl,λj hj =>?_⟩;obtain⟨K,c,c0,c1,c2,c3,c4,hK,hKB⟩:=hc j hj;exact⟨K,c,c0,c1,c2,c3,c4,hK,λ_ a ha=>by have:=hKB a ha;omega⟩
theorem eH.ne {g:Nat}{w:World}{A:Option Addr}{l:List Nd}(h:eH w A l)(hg:w.heap.size<=g):zZ g w A l:=λh0=>by
 obtain⟨b,off,e,hl,hc⟩:=h h0;refine⟨b,off,e,by omega,hl,λj hj =>?_⟩;obtain⟨K,c,c0,c1,c2,c3,c4,hK⟩:=hc j hj;refine⟨K,c,c0,c1,c2,c3,c4,hK,λh1 a ha =>?_⟩;obtain⟨b2,o2,e2,hl2,_⟩:=hK h1;rw[e2]at ha;cases ha;show b2≠g;omega
theorem zZ.nds {g:Nat}{w:World}{A:Option Addr}{l:List Nd}(h:zZ g w A l):eH w A l:=λh0=>by
 obtain⟨b,off,e,_,hl,hc⟩:=h h0;refine⟨b,off,e,hl,λj hj =>?_⟩;obtain⟨K,c,c0,c1,c2,c3,c4,hK,_⟩:=hc j hj;exact⟨K,c,c0,c1,c2,c3,c4,hK⟩
theorem zZ.keep {g:Nat}{w w':World}{A:Option Addr}{l:List Nd}(h:zZ g w A l)(hs:w.heap.size<=w'.heap.size)(hk:∀b,b<w.heap.size->b≠g->w'.heap[b]?=w.heap[b]?):zZ g w' A l:=λh0=>by
 obtain⟨b,off,e,hne,hl,hc⟩:=h h0;have kb:=hk b hl hne;refine⟨b,off,e,hne,Nat.lt_of_lt_of_le hl hs,λj hj =>?_⟩;obtain⟨K,c,c0,c1,c2,c3,c4,hK,hKB⟩:=hc j hj;refine⟨K,c,(aA kb _).trans c0,(aA kb _).trans c1,(aA kb _).trans c2,(aA kb _).trans c3,(aA kb _).trans c4,λh1 =>?_,hKB⟩;obtain⟨b2,o2,e2,hl2,hc2⟩:=hK h1;have kb2:=hk b2 hl2 (hKB h1 _ e2);exact⟨b2,o2,e2,Nat.lt_of_lt_of_le hl2 hs,λj hj=>(aA kb2 _).trans (hc2 j hj)⟩
theorem BM.nds {B:Nat}{w:World}{A:Option Addr}{l:List Nd}(h:BM B w A l):eH w A l:=λh0=>by
 obtain⟨b,off,e,_,hl,hc⟩:=h h0;refine⟨b,off,e,hl,λj hj =>?_⟩;obtain⟨K,c,c0,c1,c2,c3,c4,hK,_⟩:=hc j hj;exact⟨K,c,c0,c1,c2,c3,c4,hK⟩
end Tr
section
open Tr (Bx aa bt eH Ints dK aM bP gV lF dpt jZ mW KG tK)
theorem LV:(Tryz.prog.info? 25).map (λi=>(i.zero,i.size,i.bytes))=some (some (.agg #[.slice none 0 0,.int .i64 0]),2,32):=by kernel_rfl
def zT:Array Value := #[.slice none 0 0,.int .i64 0]
theorem O_ (n:Nat)(hn:n<=4000000000)(w:World):(Instr.makeSlice 42 (.int .i64 (n:Int)) (.int .i64 (n:Int))).run Tryz.prog w=.ok (.slice (some ⟨w.heap.size,0,none⟩) n n) (w.alloc (.cells (madeCells zT (n*2)) 25)):=by
 have h:=LV;cases hq:Tryz.prog.info? 25 with
 |none=>rw[hq]at h;cases h
 |some i=>
  rw[hq]at h;simp only[Option.map_some,Option.some.injEq,Prod.mk.injEq]at h;obtain⟨h1,h2,h3⟩:=h;have:=run_make (P:=Tryz.prog) w 42 25 i _ Tryz.underlying42 hq h1 .i64 .i64 (n:Int) (n:Int) (by omega) (Int.le_refl _) (by rw[h3];omega) (by omega);rw[this,h2];simp only[Int.toNat_natCast];rw[show(Value.agg #[.slice none 0 0,.int .i64 0]).cells=zT by rfl]
def EI (n:Nat)(m:Nat->Nat->Value):Array Value:=Array.ofFn (n:=n*2) λi=>m (i / 2) (i % 2)
theorem mJ (n:Nat)(m:Nat->Nat->Value):(EI n m).size=n*2:=by simp[EI]
theorem uq {n:Nat}{m:Nat->Nat->Value}{j f:Nat}(hj:j<n)(hf:f<2):(EI n m)[j*2+f]?=some (m j f):=by
 have h:j*2+f<n*2:=by omega
 simp only[EI,Array.getElem?_ofFn,h,dif_pos];rw[show(j*2+f) / 2=j by omega,show(j*2+f) % 2=f by omega]
theorem EJ {n:Nat}{m m':Nat->Nat->Value}(h:∀j f,j<n->f<2->m j f=m' j f):EI n m=EI n m':=by
 unfold EI;congr 1;funext i;exact h _ _ (by have:=i.2;omega) (by omega)
theorem LW {n:Nat}{m:Nat->Nat->Value}{j f:Nat}{v:Value}(hf:f<2):(EI n m).setIfInBounds (j*2+f) v=EI n (λi g=>if i=j/\g=f then v else m i g):=by
 apply Array.ext_getElem?;intro k;rw[Array.getElem?_setIfInBounds];by_cases hk:k<n*2
 ·have e1:k=k / 2*2+k % 2:=by omega
  have h1:=uq (m:=λi g=>if i=j/\g=f then v else m i g) (j:=k / 2) (f:=k % 2) (n:=n) (by omega) (by omega);have h2:=uq (m:=m) (j:=k / 2) (f:=k % 2) (n:=n) (by omega) (by omega);rw[<- e1]at h1 h2;rw[h1,h2,mJ];by_cases e:j*2+f=k
  ·rw[if_pos e,if_pos (by omega),if_pos (by omega)]
  ·rw[if_neg e,if_neg (by omega)]
 ·rw[Array.getElem?_eq_none (by rw[mJ];omega),Array.getElem?_eq_none (by rw[mJ];omega),mJ];split
  ·rw[if_neg (by omega)]
  ·rfl
def Ob (w:World)(g n:Nat)(m:Nat->Nat->Value):Prop:=w.heap[g]?=some (.cells (EI n m) 25 (0,0))
section
variable {w w':World} {g n:Nat} {m:Nat->Nat->Value}
theorem Ob.lt (h:Ob w g n m):g<w.heap.size:=(Array.getElem?_eq_some_iff.1 h).1
theorem Ob.cell (h:Ob w g n m){j f:Nat}(hj:j<n)(hf:f<2):w.cell? ⟨g,j*2+f,none⟩=some (m j f):=(cell_of_row w g _ _ 25 (0,0) h).trans (uq hj hf)
theorem Ob.frozen (h:Ob w g n m)(i:Nat):w.frozen? ⟨g,i,none⟩=false:=frozen_of_row w g i _ 25 h
theorem Ob.set_ (h:Ob w g n m)(j f:Nat)(hf:f<2)(v:Value):Ob (w.setCell ⟨g,j*2+f,none⟩ v) g n (λi k=>if i=j/\k=f then v else m i k):=(heap_setCell_same w g _ _ 25 _ h).trans (by rw[LW hf])
theorem Ob.far (h:Ob w g n m){p:Addr}(hp:g≠p.block)(u:Value):Ob (w.setCell p u) g n m:=(heap_setCell_other w p g u hp).trans h
theorem Ob.same (h:Ob w g n m)(hg:w'.heap[g]?=w.heap[g]?):Ob w' g n m:=hg.trans h
theorem Ob.grown {row:Option Nat}(h:Ob w g n m)(hb:w.grownBy w' row)(hg:some g≠row):Ob w' g n m:=(hb.block g h.lt hg).trans h
theorem Ob.alloc (h:Ob w g n m)(o:Obj):Ob (w.alloc o) g n m:=h.grown (World.grownBy_alloc w o none) (by simp)
theorem Ob.congr {m':Nat->Nat->Value}(h:Ob w g n m)(e:∀j f,j<n->f<2->m j f=m' j f):Ob w g n m':=by unfold Ob at *;rw[h,EJ e]
end
theorem Pb (n:Nat):madeCells zT (n*2)=EI n (λ_ f=>zT[f]!):=by
 apply Array.ext_getElem?;intro k;by_cases hk:k<n*2
 ·simp only[madeCells,EI,Array.getElem?_ofFn,hk,dif_pos];simp[hk,zT]
 ·rw[Array.getElem?_eq_none (by simp[madeCells];omega),Array.getElem?_eq_none (by rw[mJ];omega)]
def QA (l:List Tr.Nd):Prop:=l.length<=4000/\∀x ∈ l,x.ks.length<=4000
theorem yL {l:List Tr.Nd}{r kd n pl:Int}{tx:ByteArray}(h:QA l)(hl:l.length<=3999):QA (jZ kd n pl tx [(l,r)])/\(jZ kd n pl tx [(l,r)]).length=l.length+1:=by
 have e:mW [(l,r)]=l.map (tK 0):=by simp[mW]
 have e2:(jZ kd n pl tx [(l,r)]).length=l.length+1:=by unfold jZ;rw[e];simp
 refine⟨⟨by omega,λx hx =>?_⟩,e2⟩;unfold jZ at hx;rw[e]at hx;rcases List.mem_append.1 hx with hx |hx
 ·obtain⟨y,hy,rfl⟩:=List.mem_map.1 hx;show(y.ks.map _).length<=4000;rw[List.length_map];exact h.2 y hy
 ·rw[List.mem_singleton.1 hx];show(Tr.rts [(l,r)]).length<=4000;unfold Tr.rts;simp
theorem LX (kd nn pl:Int)(tx:ByteArray)(K0:Option Addr)(n0 c0:Nat)(g:Nat)(A:Option Addr)(c:Nat)(l:List Tr.Nd)(r:Int)(w:World)(hB:Bx w g 25 [.slice A l.length c,.int .i64 r])(hN:eH w A l)(hf:QA l) :
  Calls Tryz.prog 32 #[.agg #[.int .i64 kd,.int .i64 nn,.int .i64 pl,.string tx,.slice K0 n0 c0],.slice (some ⟨g,0,none⟩) 1 1] w (Tr.yK (jZ kd nn pl tx [(l,r)]) (l.length:Int) w):=by
 have e:(mW [(l,r)]).length=l.length:=by simp[mW]
 have h1:=Tr.EH kd nn pl tx K0 n0 c0 (some ⟨g,0,none⟩) 1 1 [(l,r)] w (λ_=>⟨g,0,rfl,(Array.getElem?_eq_some_iff.1 hB).1,λj hj=>by
  obtain rfl:j=0:=by simp at hj;omega
  exact⟨A,c,(hB.cell 0).trans rfl,(hB.cell 1).trans rfl,hN⟩⟩) rfl (by omega) (λt ht=>by rw[List.mem_singleton.1 ht];exact hf) (by rw[e];have:=hf.1;omega) (λi=>by
   rcases i with _ |i
   ·exact Nat.zero_le _
   ·rw[show List.take (i+1) [(l,r)]=[(l,r)]by simp,e];have:=hf.1;omega)
 rw[e]at h1;exact h1
theorem EK (K0:Option Addr)(n0 c0:Nat)(w:World):Calls Tryz.prog 32 #[.agg #[.int .i64 22,.int .i64 0,.int .i64 0,.string ⟨#[120]⟩,.slice K0 n0 c0],.slice none 0 0] w (Tr.wM [cz] 0 w):=
 Tr.zL 22 0 0 ⟨#[120]⟩ K0 n0 c0 none 0 0 [] w (λh=>absurd h (Nat.lt_irrefl 0)) rfl (by omega) (λt ht=>by cases ht) (Nat.zero_le _) (λi=>by rw[List.take_nil];exact Nat.zero_le _)
structure Pe (w:World) (m i:Nat) (NB:List Value) (wr:World):Prop where
 bx:Bx wr w.heap.size 37 NB
 ob:∃(A:Nat->Option Addr) (c:Nat->Nat),Ob wr (w.heap.size+1) m (λj f=>if j<i then (if f=0 then .slice (A j) 1 (c j) else .int .i64 0) else zT[f]!)/\∀j,j<i->eH wr (A j) [cz]
 bl:Below w.heap.size w wr
theorem Pe.trs {w wr:World}{m:Nat}{NB:List Value}(h:Pe w m m NB wr):KG wr (some ⟨w.heap.size+1,0,none⟩) (List.replicate m ([cz],0)):=λh0=>by
 obtain⟨A,c,hO,hN⟩:=h.ob;refine⟨_,0,rfl,hO.lt,λj hj =>?_⟩;have hj2:j<m:=by simpa using hj
 have e0:=hO.cell hj2 (f:=0) (by omega);have e1:=hO.cell hj2 (f:=1) (by omega);simp only[hj2,if_true]at e0 e1;rw[Nat.add_zero]at e0;refine⟨A j,c j,?_,?_,?_⟩
 ·rw[Nat.zero_add];simpa using e0
 ·rw[Nat.zero_add];simpa using e1
 ·simpa using hN j hj2
theorem Pe.step {w wr w':World}{m i:Nat}{NB:List Value}{A':Option Addr}{c':Nat}(h:Pe w m i NB wr)(hb:Below wr.heap.size wr w')(hN:eH w' A' [cz]):Pe w m (i+1) NB ((w'.setCell ⟨w.heap.size+1,i*2,none⟩ (.slice A' 1 c')).setCell ⟨w.heap.size+1,i*2+1,none⟩ (.int .i64 0)):=by
 obtain⟨A,c,hO,hNs⟩:=h.ob;have hO2:Ob w' (w.heap.size+1) m _:=hO.same (hb.block _ hO.lt);have hlt:=hO2.lt;have h1:=hO2.set_ i 0 (by decide) (.slice A' 1 c');rw[Nat.add_zero]at h1;have h2:=h1.set_ i 1 (by decide) (.int .i64 0);have hk:∀(b2:Nat),b2≠w.heap.size+1->((w'.setCell ⟨w.heap.size+1,i*2,none⟩ (.slice A' 1 c')).setCell ⟨w.heap.size+1,i*2+1,none⟩ (.int .i64 0)).heap[b2]?=w'.heap[b2]?:=λb2 hb2=>by
  rw[heap_setCell_other _ _ b2 _ hb2,heap_setCell_other _ _ b2 _ hb2]
 have hsz:((w'.setCell ⟨w.heap.size+1,i*2,none⟩ (.slice A' 1 c')).setCell ⟨w.heap.size+1,i*2+1,none⟩ (.int .i64 0)).heap.size=w'.heap.size:=by
  rw[World.size_setCell,World.size_setCell]
 have hnk:∀ {B:Option Addr} {l:List Tr.Nd},eH w' B l->l=[cz]->eH ((w'.setCell ⟨w.heap.size+1,i*2,none⟩ (.slice A' 1 c')).setCell ⟨w.heap.size+1,i*2+1,none⟩ (.int .i64 0)) B l:=λ{B l} hB hl h0=>by
  subst hl;obtain⟨b2,off,e,hl2,hc⟩:=hB h0;have hne:b2≠w.heap.size+1:=λe2=>by
   obtain⟨K,c2,q0,_⟩:=hc 0 (by decide);rw[Nat.zero_mul,Nat.add_zero]at q0;rw[e2]at q0;have q1:=(cell_of_row w' _ off _ 25 (0,0) hO2).symm.trans q0;by_cases ho:off<m*2
   ·have q2:=uq (n:=m) (m:=λj f=>if j<i then (if f=0 then .slice (A j) 1 (c j) else .int .i64 0) else zT[f]!) (j:=off / 2) (f:=off % 2) (by omega) (by omega);rw[show off / 2*2+off % 2=off by omega,q1]at q2;injection q2 with q2
    have h3:off % 2=0\/off % 2=1:=by omega
    rcases h3 with e3 |e3<;>rw[e3]at q2
    ·split at q2
     ·cases q2
     ·cases q2
    ·split at q2
     ·injection q2 with _ q2;exact absurd q2 (by decide)
     ·injection q2 with _ q2;exact absurd q2 (by decide)
   ·rw[Array.getElem?_eq_none (by rw[mJ];omega)]at q1;cases q1
  refine⟨b2,off,e,by rw[hsz];exact hl2,λj hj =>?_⟩;obtain⟨K,c2,q0,q1,q2,q3,q4,q5⟩:=hc j hj;have hcell:∀o,((w'.setCell ⟨w.heap.size+1,i*2,none⟩ (.slice A' 1 c')).setCell ⟨w.heap.size+1,i*2+1,none⟩ (.int .i64 0)).cell? ⟨b2,o,none⟩=w'.cell? ⟨b2,o,none⟩:=λo=>Tr.aA (hk b2 hne) o
  refine⟨K,c2,(hcell _).trans q0,(hcell _).trans q1,(hcell _).trans q2,(hcell _).trans q3,(hcell _).trans q4,λh1 =>?_⟩;obtain rfl:j=0:=by simp at hj;omega
  exact absurd h1 (by simp[cz])
 refine⟨(hk _ (by omega)).trans ((hb.block _ (Array.getElem?_eq_some_iff.1 h.bx).1).trans h.bx),⟨λj=>if j=i then A' else A j,λj=>if j=i then c' else c j,h2.congr λj f hj hf =>?_,λj hj =>?_⟩,?_⟩
 ·by_cases e:j=i
  ·subst e;have:f=0\/f=1:=by omega
   rcases this with e |e<;>subst e<;>simp
  ·have e2:(j<i+1)↔(j<i):=by omega
   simp[e,e2]
 ·by_cases e:j=i
  ·subst e;simp only[if_true];exact hnk hN rfl
  ·simp only[e,if_false];exact hnk ((hNs j (by omega)).below hb) rfl
 ·have hsz2:=h.bl.size;have hsz3:=hb.size;exact⟨hb.os.trans h.bl.os,hb.tape.trans h.bl.tape,hb.output.trans h.bl.output,by rw[hsz];omega,λb2 hb2=>(hk b2 (by omega)).trans ((hb.block b2 (by omega)).trans (h.bl.block b2 hb2))⟩
end
section
open Tr (Bx aa bt eH Ints dK aM bP gV lF dpt jZ mW KG tK)
def qK (l:List Tr.Nd)(k:Nat):Nat->List Tr.Nd
 |0=>l
 |1=>jZ 15 0 0 ⟨#[]⟩ [(l,(k:Int))]
 |2=>jZ 6 0 0 ⟨#[]⟩ [(jZ 15 0 0 ⟨#[]⟩ [(l,(k:Int))],((k+1:Nat):Int))]
 |3=>jZ 3 0 0 ⟨#[102]⟩ [(jZ 6 0 0 ⟨#[]⟩ [(jZ 15 0 0 ⟨#[]⟩ [(l,(k:Int))],((k+1:Nat):Int))],((k+2:Nat):Int))]
 |_=>jZ 1 0 0 ⟨#[]⟩ [(jZ 3 0 0 ⟨#[102]⟩ [(jZ 6 0 0 ⟨#[]⟩ [(jZ 15 0 0 ⟨#[]⟩ [(l,(k:Int))],((k+1:Nat):Int))],((k+2:Nat):Int))],((k+3:Nat):Int))]
theorem Dk {l:List Tr.Nd}{k:Nat}(hf:QA l)(hk:l.length=k+1)(hk2:k<=3900):∀j,j<=4->QA (qK l k j)/\(qK l k j).length=k+1+j:=λj hj=>by
 have h1:=yL (r:=(k:Int)) (kd:=15) (n:=0) (pl:=0) (tx:=⟨#[]⟩) hf (by omega);have h2:=yL (r:=((k+1:Nat):Int)) (kd:=6) (n:=0) (pl:=0) (tx:=⟨#[]⟩) h1.1 (by omega);have h3:=yL (r:=((k+2:Nat):Int)) (kd:=3) (n:=0) (pl:=0) (tx:=⟨#[102]⟩) h2.1 (by omega);have h4:=yL (r:=((k+3:Nat):Int)) (kd:=1) (n:=0) (pl:=0) (tx:=⟨#[]⟩) h3.1 (by omega);have hj':j=0\/j=1\/j=2\/j=3\/j=4:=by omega
 rcases hj' with rfl |rfl |rfl |rfl |rfl
 ·exact⟨hf,hk⟩
 ·exact⟨h1.1,by show(jZ _ _ _ _ _).length=_;omega⟩
 ·exact⟨h2.1,by show(jZ _ _ _ _ _).length=_;omega⟩
 ·exact⟨h3.1,by show(jZ _ _ _ _ _).length=_;omega⟩
 ·exact⟨h4.1,by show(jZ _ _ _ _ _).length=_;omega⟩
def LY (j:Nat):Int:=if j=0 then 15 else if j=1 then 6 else if j=2 then 3 else 1
def LZ (j:Nat):ByteArray:=if j=2 then ⟨#[102]⟩ else ⟨#[]⟩
theorem Im (l:List Tr.Nd)(k j:Nat)(hj:j<4):qK l k (j+1)=jZ (LY j) 0 0 (LZ j) [(qK l k j,((k+j:Nat):Int))]:=by
 have hj':j=0\/j=1\/j=2\/j=3:=by omega
 rcases hj' with rfl |rfl |rfl |rfl<;>rfl
def SB:List Value:=[.int .i64 15,.int .i64 0,.int .i64 0,.string ⟨#[]⟩,.slice none 0 0,.int .i64 6,.int .i64 0,.int .i64 0,.string ⟨#[]⟩,.slice none 0 0,.int .i64 3,.int .i64 0,.int .i64 0,.string ⟨#[102]⟩,.slice none 0 0,.int .i64 1,.int .i64 0,.int .i64 0,.string ⟨#[]⟩,.slice none 0 0]
theorem Io {w:World}{g j:Nat}(h:Bx w g 37 SB)(hj:j<4):w.cell? ⟨g,j*5,none⟩=some (.int .i64 (LY j))/\w.cell? ⟨g,j*5+1,none⟩=some (.int .i64 0)/\w.cell? ⟨g,j*5+2,none⟩=some (.int .i64 0)/\w.cell? ⟨g,j*5+3,none⟩=some (.string (LZ j))/\w.cell? ⟨g,j*5+4,none⟩=some (.slice none 0 0):=by
 have hj':j=0\/j=1\/j=2\/j=3:=by omega
 rcases hj' with rfl |rfl |rfl |rfl
 ·exact⟨(h.cell 0).trans rfl,(h.cell 1).trans rfl,(h.cell 2).trans rfl,(h.cell 3).trans rfl,(h.cell 4).trans rfl⟩
 ·exact⟨(h.cell 5).trans rfl,(h.cell 6).trans rfl,(h.cell 7).trans rfl,(h.cell 8).trans rfl,(h.cell 9).trans rfl⟩
 ·exact⟨(h.cell 10).trans rfl,(h.cell 11).trans rfl,(h.cell 12).trans rfl,(h.cell 13).trans rfl,(h.cell 14).trans rfl⟩
 ·exact⟨(h.cell 15).trans rfl,(h.cell 16).trans rfl,(h.cell 17).trans rfl,(h.cell 18).trans rfl,(h.cell 19).trans rfl⟩
structure Ru (w:World) (l:List Tr.Nd) (k j gT:Nat) (wr:World):Prop where
 bn:Bx wr (gT+1) 37 SB
 bt:∃A c,Bx wr gT 25 [.slice A (qK l k j).length c,.int .i64 ((k+j:Nat):Int)]/\Tr.zZ gT wr A (qK l k j)
 bl:Below w.heap.size w wr
 gt:w.heap.size<=gT
theorem Ru.step {w wr w2 w3:World}{l:List Tr.Nd}{k j gT:Nat}{A':Option Addr}{c':Nat}{x:Int}(h:Ru w l k j gT wr)(hb2:Below wr.heap.size wr w2)(hb3:Below w2.heap.size w2 w3)(hN:Tr.BM w2.heap.size w3 A' (qK l k (j+1)))(hx:x=((k+(j+1):Nat):Int)) :
  Ru w l k (j+1) gT ((w3.setCell ⟨gT,0,none⟩ (.slice A' (qK l k (j+1)).length c')).setCell ⟨gT,1,none⟩ (.int .i64 x)):=by
 obtain⟨A,c,hB,_⟩:=h.bt;have hlt:gT<wr.heap.size:=(Array.getElem?_eq_some_iff.1 hB).1;have hlt2:gT+1<wr.heap.size:=(Array.getElem?_eq_some_iff.1 h.bn).1;have hs2:=hb2.size;have hs3:=hb3.size;have hk:∀(b2:Nat),b2≠gT->((w3.setCell ⟨gT,0,none⟩ (.slice A' (qK l k (j+1)).length c')).setCell ⟨gT,1,none⟩ (.int .i64 x)).heap[b2]?=w3.heap[b2]?:=λb2 hb2=>by
  rw[heap_setCell_other _ _ b2 _ hb2,heap_setCell_other _ _ b2 _ hb2]
 have hsz:((w3.setCell ⟨gT,0,none⟩ (.slice A' (qK l k (j+1)).length c')).setCell ⟨gT,1,none⟩ (.int .i64 x)).heap.size=w3.heap.size:=by
  rw[World.size_setCell,World.size_setCell]
 have hB3:=(hB.below hb2 hlt).below hb3 (by omega);subst hx;refine⟨(hk _ (by omega)).trans ((h.bn.below hb2 hlt2).below hb3 (by omega)),⟨A',c',?_,(hN.ne (by omega)).keep (by rw[hsz];exact Nat.le_refl _) λb _ hne=>hk b hne⟩,?_,h.gt⟩
 ·have h1:=(hB3.set_ 0 (.slice A' (qK l k (j+1)).length c')).set_ 1 (.int .i64 ((k+(j+1):Nat):Int));exact h1
 ·have hsz2:=h.bl.size;have hg:=h.gt;exact⟨hb3.os.trans (hb2.os.trans h.bl.os),hb3.tape.trans (hb2.tape.trans h.bl.tape),hb3.output.trans (hb2.output.trans h.bl.output),by rw[hsz];omega,λb2 hb=>(hk b2 (by omega)).trans ((hb3.block b2 (by omega)).trans ((hb2.block b2 (by omega)).trans (h.bl.block b2 hb)))⟩
theorem Dl {P:Tr.Nd->Prop}{l:List Tr.Nd}{k:Nat}(hl:∀x ∈ l,P x)(hmv:∀d x,P x->P (tK d x))(h15:∀r,P ⟨15,0,0,⟨#[]⟩,r⟩)(h6:∀r,P ⟨6,0,0,⟨#[]⟩,r⟩)(h3:∀r,P ⟨3,0,0,⟨#[102]⟩,r⟩)(h1:∀r,P ⟨1,0,0,⟨#[]⟩,r⟩):∀x ∈ qK l k 4,P x:=by
 have hov:∀ {ll:List Tr.Nd} {kd n pl r:Int} {tx:ByteArray},(∀x ∈ ll,P x)->(∀rs,P ⟨kd,n,pl,tx,rs⟩)->∀x ∈ jZ kd n pl tx [(ll,r)],P x:=λ{ll kd n pl r tx} h h2 x hx=>by
  have e:mW [(ll,r)]=ll.map (tK 0):=by simp[mW]
  unfold jZ at hx;rw[e]at hx;rcases List.mem_append.1 hx with hx |hx
  ·obtain⟨y,hy,rfl⟩:=List.mem_map.1 hx;exact hmv _ _ (h y hy)
  ·rw[List.mem_singleton.1 hx];exact h2 _
 exact hov (hov (hov (hov hl h15) h6) h3) h1
theorem Pi {l:List Tr.Nd}{kd nn pl:Int}{tx:ByteArray}{m:Nat}(h:l=List.replicate m cz++[⟨kd,nn,pl,tx,(List.range m).map λj:Nat=>(j:Int)⟩])(htx:tx.size<=281474976710656):∀x ∈ qK l m 4,x.tx.size<=281474976710656:=
 Dl (P:=λx=>x.tx.size<=281474976710656) (λx hx=>by
  rw[h]at hx
  rcases List.mem_append.1 hx with hx |hx
  ·rw[(List.mem_replicate.1 hx).2];show 1<=281474976710656;omega
  ·rw[List.mem_singleton.1 hx];exact htx) (λd x hx=>hx) (λ_=>Nat.zero_le _) (λ_=>Nat.zero_le _) (λ_=>by show 1<=281474976710656;omega) (λ_=>Nat.zero_le _)
theorem Rv {l:List Tr.Nd}{kd nn pl:Int}{tx:ByteArray}{m:Nat}(h:l=List.replicate m cz++[⟨kd,nn,pl,tx,(List.range m).map λj:Nat=>(j:Int)⟩])(hnn:nn<=9223372036854775807):∀x ∈ qK l m 4,x.n<=9223372036854775807:=
 Dl (P:=λx=>x.n<=9223372036854775807) (λx hx=>by
  rw[h]at hx
  rcases List.mem_append.1 hx with hx |hx
  ·rw[(List.mem_replicate.1 hx).2];show(0:Int)<=_;omega
  ·rw[List.mem_singleton.1 hx];exact hnn) (λd x hx=>hx) (λ_=>by show(0:Int)<=_;omega) (λ_=>by show(0:Int)<=_;omega) (λ_=>by show(0:Int)<=_;omega) (λ_=>by show(0:Int)<=_;omega)
theorem vG (kd nn pl:Int)(tx:ByteArray)(K:Option Addr)(m cK:Nat)(w:World)(hm:m<=3000)(htx:tx.size<=281474976710656)(hnn:nn<=9223372036854775807) :
  Calls Tryz.prog 122 #[.agg #[.int .i64 kd,.int .i64 nn,.int .i64 pl,.string tx,.slice K m cK]] w (dK (Fe kd nn tx.data.toList m) w):=by
 rw[<- Eo kd nn pl tx m hm];obtain⟨l0,hl0⟩:∃l0,l0=jZ kd nn pl tx (List.replicate m ([cz],0)):=⟨_,rfl⟩;have hbe:l0=List.replicate m cz++[⟨kd,nn,pl,tx,(List.range m).map λj:Nat=>(j:Int)⟩]:=hl0.trans (ul kd nn pl tx m hm);have hlen0:l0.length=m+1:=by rw[hbe];simp
 have hfew:QA l0:=⟨by omega,λx hx=>by
  rw[hbe]at hx
  rcases List.mem_append.1 hx with hx |hx
  ·rw[(List.mem_replicate.1 hx).2];exact Nat.zero_le _
  ·rw[List.mem_singleton.1 hx];simp;omega⟩
 have hovA:(mW (List.replicate m ([cz],0))).length=m:=by rw[iR,List.length_replicate]
 show Calls Tryz.prog 122 _ w (dK (lF (qK (jZ kd nn pl tx (List.replicate m ([cz],0))) m 4) ((m+4:Nat):Int)) w);rw[<- hl0];have htw:∀x ∈ qK l0 m 4,x.tx.size<=281474976710656:=Pi hbe htx;have hnw:∀x ∈ qK l0 m 4,x.n<=9223372036854775807:=Rv hbe hnn;have HOV:=hid (λ(w':World) (hT:KG w' (some ⟨w.heap.size+1,0,none⟩) (List.replicate m ([cz],0)))=>(show Calls Tryz.prog 32 #[.agg #[.int .i64 kd,.int .i64 nn,.int .i64 pl,.string tx,.slice K m cK],.slice (some ⟨w.heap.size+1,0,none⟩) m m] w' (Tr.wM l0 (m:Int) w')from by
  have h1:=Tr.zL kd nn pl tx K m cK (some ⟨w.heap.size+1,0,none⟩) m m (List.replicate m ([cz],0)) w' hT (by rw[List.length_replicate]) (by omega) (λt ht=>by rw[(List.mem_replicate.1 ht).2];exact⟨by decide,λx hx=>by rw[List.mem_singleton.1 hx];exact Nat.zero_le _⟩) (by omega) (λi=>by rw[List.take_replicate,iR,List.length_replicate];omega);rw[hovA,<- hl0]at h1;exact h1))
 have HUP:=hid (Dk hfew hlen0 (by omega));have HRG:=hid (λ(A:Option Addr) (c:Nat) (w':World) (hN:eH w' A (qK l0 m 4))=>Tr.xe A c (qK l0 m 4).length (qK l0 m 4) ((m+4:Nat):Int) w' hN rfl ((Dk hfew hlen0 (by omega)) 4 (by omega)).1.2 htw hnw);have HLEN:=hid hlen0;have HL0:=hid (show Pe w m 0 [.int .i64 kd,.int .i64 nn,.int .i64 pl,.string tx,.slice K m cK] ((w.alloc (.cells #[.int .i64 kd,.int .i64 nn,.int .i64 pl,.string tx,.slice K m cK] 37)).alloc (.cells (madeCells zT (m*2)) 25))from by
  have b1:=(Bx.new w 37 [.int .i64 kd,.int .i64 nn,.int .i64 pl,.string tx,.slice K m cK]).alloc (.cells (madeCells zT (m*2)) 25);refine⟨b1,⟨λ_=>none,λ_=>0,?_,λj hj=>absurd hj (Nat.not_lt_zero j)⟩,(aa w _).alloc (by rw[World.size_alloc];omega) _⟩;rw[Pb];have h1:=World.alloc_heap_new (w.alloc (.cells #[.int .i64 kd,.int .i64 nn,.int .i64 pl,.string tx,.slice K m cK] 37)) (.cells (EI m (λ_ f=>zT[f]!)) 25);rw[World.size_alloc]at h1;exact(show Ob _ _ m _ from h1).congr λj f _ _=>(if_neg (Nat.not_lt_zero j)).symm)
 clear hl0 hbe hlen0 hfew hovA htw hnw;have hmk:=λw'=>O_ m (by omega) w'
 go_enter Tryz.func122,Tryz.ntmps122
 go_wp2;clear hmk
 go_loopg [4,14] m (λg _ a14 wr=>∃i:Nat,a14=.int .i64 (i:Int)/\i<=m/\g=m-i/\Pe w m i [.int .i64 kd,.int .i64 nn,.int .i64 pl,.string tx,.slice K m cK] wr)
 case atStart=>exact⟨0,rfl,Nat.zero_le _,rfl,HL0.out⟩
 case round=>
  obtain⟨i,rfl,him,rfl,hr⟩:=hrel;have HI:=hid hr;have hwr:=hr.bl.size;have hg1:w.heap.size+1<wr.heap.size:=by obtain⟨A,c,hO,_⟩:=hr.ob;exact hO.lt
  by_cases hlt:i<m
  ·have hlz:(i:Int)<(m:Int):=by omega
   clear hr;go_wp2_with (go_at_call 32;refine(EK none 0 0 wr).mono ?_;rintro e w2 ⟨A',c',rfl,hN2,hc2,hb2⟩;have HN2:=hid (And.intro hN2 hb2);obtain⟨Aq,cq,hO,_⟩:=HI.out.ob;have hO2:Ob w2 (w.heap.size+1) m _:=hO.same (hb2.block _ hO.lt);have q0:=(hO2.cell hlt (f:=0) (by decide));have q1:=(hO2.cell hlt (f:=1) (by decide));have qf:=hO2.frozen;simp only[Nat.lt_irrefl,if_false,Nat.add_zero]at q0 q1;clear hO hO2 hN2 hc2 hb2);clear q0 q1 qf
   go_roundg (m-(i+1))
   case measure=>go_light;omega
   case rel=>
    go_light
    exact⟨i+1,by go_num,by omega,rfl,HI.out.step HN2.out.2 HN2.out.1⟩
  ·obtain rfl:i=m:=by omega
   have hlz:¬(i:Int)<(i:Int):=by omega
   have e0:=(hr.bx.cell 0).trans rfl;have e1:=(hr.bx.cell 1).trans rfl;have e2:=(hr.bx.cell 2).trans rfl;have e3:=(hr.bx.cell 3).trans rfl;have e4:=(hr.bx.cell 4).trans rfl;have HT:=hid hr.trs;have HB1:=hid hr.bl;clear hr hg1;go_wp2_with (go_at_call 32;refine(HOV.out wr HT.out).mono ?_;rintro e w2 ⟨A,c,rfl,hN2,hc2,hb2⟩;have HN2:=hid hN2;have HB2:=hid hb2;clear hN2 hb2 hc2);have hw2:=HB2.out.size;have HU0:=hid (show Ru w l0 i 0 w2.heap.size ((w2.alloc (.cells #[.slice A l0.length c,.int .i64 (i:Int)] 25)).alloc (.cells #[.int .i64 15,.int .i64 0,.int .i64 0,.string ⟨#[]⟩,.slice none 0 0,.int .i64 6,.int .i64 0,.int .i64 0,.string ⟨#[]⟩,.slice none 0 0,.int .i64 3,.int .i64 0,.int .i64 0,.string ⟨#[102]⟩,.slice none 0 0,.int .i64 1,.int .i64 0,.int .i64 0,.string ⟨#[]⟩,.slice none 0 0] 37))from by
    have b1:=Bx.new w2 25 [.slice A l0.length c,.int .i64 (i:Int)];have b2:=Bx.new (w2.alloc (.cells #[.slice A l0.length c,.int .i64 (i:Int)] 25)) 37 SB;rw[World.size_alloc]at b2;refine⟨b2,⟨A,c,b1.alloc _,((HN2.out.ne (Nat.le_refl _)).keep (aa _ _).size λb hb _=>(aa w2 _).block b hb).keep (aa _ _).size λb hb _=>(aa _ _).block b hb⟩,((bt HB1.out HB2.out).alloc (by omega) _).alloc (by rw[World.size_alloc];omega) _,by omega⟩)
   clear e0 e1 e2 e3 e4 HN2;go_wp2
   go_loopg [7,32] 4 (λg _ a32 wr=>∃j:Nat,a32=.int .i64 (j:Int)/\j<=4/\g=4-j/\Ru w l0 i j w2.heap.size wr)
   case atStart=>exact⟨0,rfl,by omega,rfl,HU0.out⟩
   case round=>
    obtain⟨j,rfl,hj,rfl,hu⟩:=hrel;have HU:=hid hu;obtain⟨Aj,cj,hbt,hne⟩:=hu.bt;obtain⟨x,hx⟩:∃x:Int,x=((i+j:Nat):Int):=⟨_,rfl⟩;rw[<- hx]at hbt;have HX:=hid hx;clear hx;have t0:=(hbt.cell 0).trans rfl;have t1:=(hbt.cell 1).trans rfl;have hgT:w2.heap.size+1<wr.heap.size:=(Array.getElem?_eq_some_iff.1 hu.bn).1;by_cases hj4:j<4
    ·have hjz:(j:Int)<4:=by omega
     obtain⟨n0,n1,n2,n3,n4⟩:=Io hu.bn hj4;have ta0:=(show∀o,(wr.alloc o).cell? ⟨w2.heap.size,0,none⟩=some (.slice Aj (qK l0 i j).length cj)from λo=>((hbt.alloc o).cell 0).trans rfl);have ta1:=(show∀o,(wr.alloc o).cell? ⟨w2.heap.size,1,none⟩=some (.int .i64 x)from λo=>((hbt.alloc o).cell 1).trans rfl);obtain⟨y,hy⟩:∃y:Int,y=((i+(j+1):Nat):Int):=⟨_,rfl⟩;have HO:=hid (show Calls Tryz.prog 32 #[.agg #[.int .i64 (LY j),.int .i64 0,.int .i64 0,.string (LZ j),.slice none 0 0],.slice (some ⟨wr.heap.size+1,0,none⟩) 1 1] ((wr.alloc (.cells #[.int .i64 (LY j),.int .i64 0,.int .i64 0,.string (LZ j),.slice none 0 0] 37)).alloc (.cells #[.slice Aj (qK l0 i j).length cj,.int .i64 x] 25)) (Tr.yK (qK l0 i (j+1)) y ((wr.alloc (.cells #[.int .i64 (LY j),.int .i64 0,.int .i64 0,.string (LZ j),.slice none 0 0] 37)).alloc (.cells #[.slice Aj (qK l0 i j).length cj,.int .i64 x] 25)))from by
      have b2:=Bx.new (wr.alloc (.cells #[.int .i64 (LY j),.int .i64 0,.int .i64 0,.string (LZ j),.slice none 0 0] 37)) 25 [.slice Aj (qK l0 i j).length cj,.int .i64 x];rw[World.size_alloc]at b2;have hf:=HUP.out j hj;have h1:=LX (LY j) 0 0 (LZ j) none 0 0 (wr.heap.size+1) Aj cj (qK l0 i j) x _ b2 ((hne.nds.below (aa _ _)).below (aa _ _)) hf.1;rw[Im l0 i j hj4,<- HX.out,show y=((qK l0 i j).length:Int)by rw[hy,hf.2];omega];exact h1)
     have HY:=hid hy;have HB:=hid (show Below wr.heap.size wr ((wr.alloc (.cells #[.int .i64 (LY j),.int .i64 0,.int .i64 0,.string (LZ j),.slice none 0 0] 37)).alloc (.cells #[.slice Aj (qK l0 i j).length cj,.int .i64 x] 25)) from(aa _ _).alloc (by rw[World.size_alloc];omega) _);have HBT:=hid hbt;clear hu hbt hne hy;generalize LY j=un at *
     generalize LZ j=ux at *
     generalize (qK l0 i j).length=lj at *
     go_wp2_with (go_at_call 32;refine HO.out.mono ?_;rintro e w3 ⟨A',c',rfl,hN3,hc3,hb3⟩;have HN3:=hid (And.intro hN3 hb3);have hq:=((HBT.out.below HB.out (by omega)).below hb3 (by rw[World.size_alloc,World.size_alloc];omega));have q0:=(hq.cell 0).trans rfl;have q1:=(hq.cell 1).trans rfl;have qf:=hq.frozen;clear hN3 hc3 hb3 hq);clear t0 t1 ta0 ta1 n0 n1 n2 n3 n4
     go_roundg (4-(j+1))
     case measure=>go_light;omega
     case rel=>
      go_light
      exact⟨j+1,by go_num,by omega,rfl,HU.out.step HB.out HN3.out.2 HN3.out.1 HY.out⟩
    ·obtain rfl:j=4:=by omega
     have HNN:=hid hne.nds;have HBU:=hid hu.bl;have HR:=hid (HRG.out Aj cj wr hne.nds);rw[<- HX.out]at HR;clear hu hbt hne;generalize (qK l0 i 4).length=lj at *
     go_wp2_with (go_at_call 27;refine HR.out.mono ?_);rintro e w3 ⟨rfl,hb3⟩;have HB3:=hid (bt HBU.out hb3);clear hb3 t0 t1;go_wp2
     go_ret
     exact⟨by rw[HX.out];rfl,HB3.out⟩
end
section
open Tr (Bx aa bt eH Ints dK aM bP gV lF dpt tT)
theorem Pm {l:List Tr.Nd}{r:Int}{j:Nat}(hj:j<l.length)(h:Fe l[j].kd l[j].n l[j].tx.data.toList l[j].ks.length=false):exB l r=false:=by
 cases he:exB l r with
 |false=>rfl
 |true=>have:=KN he _ (List.getElem_mem hj);rw[h]at this;cases this
theorem L6 {l:List Tr.Nd}{r:Int}(hs:gV l r)(hd:dpt l r<=40)(h:∀j (hj:j<l.length),Fe l[j].kd l[j].n l[j].tx.data.toList l[j].ks.length=true):exB l r=true:=by
 unfold exB;rw[rF.2 hs,decide_eq_true hd,Bool.true_and,Bool.true_and,List.all_eq_true];intro x hx;obtain⟨j,hj,rfl⟩:=List.getElem_of_mem hx;exact h j hj
theorem L8 {l:List Tr.Nd}{r:Int}(h:dpt l r=0\/40<dpt l r):exB l r=false:=by
 cases he:exB l r with
 |false=>rfl
 |true=>
  have h1:=Bo he;have:=Tr.Di h1.snd;have:=h1.dep;omega
theorem BO (A:Option Addr)(n c:Nat)(l:List Tr.Nd)(r:Int)(w:World)(h:BK w A n l)(hk3:∀x ∈ l,x.ks.length<=3000):Calls Tryz.prog 65 #[.agg #[.slice A n c,.int .i64 r]] w (dK (exB l r) w):=by
 have hn:=h.len;subst hn;have hb0:=aa w (.cells #[.slice A l.length c,.int .i64 r] 25);have HD:=hid (Tr.sH A c l.length l r _ (h.nds.below hb0) rfl h.kids);have HX:=hid (Bx.new w 25 [.slice A l.length c,.int .i64 r]);have HB0:=hid hb0;have H:=hid h;have HK3:=hid hk3;clear hk3;obtain⟨d,hd⟩:∃d,d=dpt l r:=⟨_,rfl⟩;rw[<- hd]at HD;by_cases hd0:d=0\/40<d
 ·have he:=L8 (hd▸hd0);rw[he];clear he h hd hb0 H;go_enter Tryz.func65,Tryz.ntmps65
  rcases hd0 with rfl |hd0
  ·go_wp2_with (go_at_call 31;refine HD.out.mono ?_);rintro e w1 ⟨rfl,hb1⟩;have HB1:=hid (bt HB0.out hb1);clear hb1;go_wp2
   go_ret
   exact⟨rfl,HB1.out⟩
  ·have hdz:(40:Int)<(d:Int):=by omega
   have hdn:¬(d:Int)=0:=by omega
   go_wp2_with (go_at_call 31;refine HD.out.mono ?_);rintro e w1 ⟨rfl,hb1⟩;have HB1:=hid (bt HB0.out hb1);clear hb1;go_wp2
   go_ret
   exact⟨rfl,HB1.out⟩
 ·have hs:gV l r:=by
   by_cases hs:gV l r
   ·exact hs
   ·exact absurd (Or.inl (hd.trans (Tr.sG hs))) hd0
  have hd4:dpt l r<=40:=by omega
  have HS:=hid (And.intro hs hd4);have hl4:=(jr hs).2.1;have hdz:¬(40:Int)<(d:Int):=by omega
  have hdn:¬(d:Int)=0:=by omega
  have hdp:¬d=0:=by omega
  have hq0:((d:Int)==0)=false:=by rw[beq_eq_false_iff_ne];exact hdn
  have hq1:decide ((40:Int)<(d:Int))=false:=decide_eq_false hdz;clear h hd hb0 hs hd4 hd0;generalize hex:exB l r=ex at *
  have HEX:=hid hex;clear hex;obtain⟨m,hm⟩:∃m,m=l.length:=⟨_,rfl⟩;rw[<- hm]at HX HD HB0 H hl4 |-;have HM:=hid hm;clear hm;go_enter Tryz.func65,Tryz.ntmps65
  go_wp2_with (go_at_call 31;refine HD.out.mono ?_);rintro e w1 ⟨rfl,hb1⟩;have HB1:=hid (bt HB0.out hb1);have hx1:=HX.out.below hb1 (by rw[World.size_alloc];omega);have HX1:=hid hx1;have e0:=(hx1.cell 0).trans rfl;have e1:=(hx1.cell 1).trans rfl;clear hb1 hx1;go_wp2;clear e0 e1
  go_loopg [5,17] m (λg _ a17 wr=>∃i:Nat,a17=.int .i64 (i:Int)/\i<=m/\g=m-i/\(∀j (hj:j<l.length),j<i->Fe l[j].kd l[j].n l[j].tx.data.toList l[j].ks.length=true)/\Below w.heap.size w wr)
  case atStart=>exact⟨0,rfl,Nat.zero_le _,rfl,λj _ hj=>absurd hj (Nat.not_lt_zero j),HB1.out⟩
  case round=>
   obtain⟨i,rfl,him,rfl,hall,hb⟩:=hrel;have HALL:=hid hall;have HB2:=hid hb;clear hall;by_cases hlt:i<m
   ·have hlz:(i:Int)<(m:Int):=by omega
    have hil:i<l.length:=by rw[<- HM.out];exact hlt
    obtain⟨bA,off,K,cK,rfl,hltA,c0,c1,c2,c3,c4,_⟩:=aZ (H.out.below hb).nds (Below.refl _ _) i hil;have hSX:=vG l[i].kd l[i].n l[i].pl l[i].tx K l[i].ks.length cK (wr.alloc (.cells #[.int .i64 l[i].kd,.int .i64 l[i].n,.int .i64 l[i].pl,.string l[i].tx,.slice K l[i].ks.length cK] 37)) (HK3.out _ (List.getElem_mem hil)) (H.out.text _ (List.getElem_mem hil)) (H.out.num _ (List.getElem_mem hil));obtain⟨q,hq⟩:∃q,q=Fe l[i].kd l[i].n l[i].tx.data.toList l[i].ks.length:=⟨_,rfl⟩;rw[<- hq]at hSX;have HQ:=hid hq.symm;obtain⟨kd,hkd⟩:∃kd,kd=l[i].kd:=⟨_,rfl⟩;obtain⟨nn,hnn⟩:∃nn,nn=l[i].n:=⟨_,rfl⟩;obtain⟨pl,hpl⟩:∃pl,pl=l[i].pl:=⟨_,rfl⟩;obtain⟨tx,htx⟩:∃tx,tx=l[i].tx:=⟨_,rfl⟩;obtain⟨nk,hnk⟩:∃nk,nk=l[i].ks.length:=⟨_,rfl⟩;rw[<- hkd]at c0 hSX;rw[<- hnn]at c1 hSX;rw[<- hpl]at c2 hSX;rw[<- htx]at c3 hSX;rw[<- hnk]at c4 hSX;have HSX:=hid hSX;clear hSX hq hb hkd hnn hpl htx hnk;cases q with
    |false=>
     go_wp2_with (go_at_call 122;refine HSX.out.mono ?_);rintro e w3 ⟨rfl,hb3⟩;have HB3:=hid (bt HB2.out (bt (aa _ _) hb3));clear hb3 c0 c1 c2 c3 c4;go_wp2
     go_ret
     have hxx:=HEX.out.symm.trans (Pm hil HQ.out);subst hxx;exact⟨rfl,HB3.out⟩
    |true=>
     go_wp2_with (go_at_call 122;refine HSX.out.mono ?_);rintro e w3 ⟨rfl,hb3⟩;have HB3:=hid (bt HB2.out (bt (aa _ _) hb3));clear hb3 c0 c1 c2 c3 c4;go_wp2
     go_roundg (m-(i+1))
     case measure=>go_light;omega
     case rel=>
      go_light
      exact⟨i+1,by go_num,by omega,rfl,λj hj hj2=>by
       by_cases e:j<i
       ·exact HALL.out j hj e
       ·obtain rfl:j=i:=by omega
        exact HQ.out,HB3.out⟩
   ·obtain rfl:i=m:=by omega
    have hlz:¬(i:Int)<(i:Int):=by omega
    have he:=L6 HS.out.1 HS.out.2 (λj hj=>HALL.out j hj (by rw[HM.out];exact hj));have HE:=hid (HEX.out.symm.trans he);clear he hb;go_wp2
    go_ret
    have hxx:=HE.out;subst hxx;exact⟨rfl,HB2.out⟩
end
section
open Tr (Bx aa bt eH Ints dK aM bP gV lF dpt)
theorem lS (A:Option Addr)(n c:Nat)(l:List Tr.Nd)(r:Int)(w:World)(h:BK w A n l)(hk3:∀x ∈ l,x.ks.length<=3000):Calls Tryz.prog 23 #[.agg #[.slice A n c,.int .i64 r]] w (bP (.string (lZ (fP l r))) w):=by
 have hn:=h.len;subst hn;have hb0:=aa w (.cells #[.slice A l.length c,.int .i64 r] 25);have HR:=hid (BO A l.length c l r _ (h.below hb0) hk3);have HX:=hid (Bx.new w 25 [.slice A l.length c,.int .i64 r]);have HB0:=hid hb0;have H:=hid h;cases hr:exB l r with
 |false=>
  have e:fP l r=[]:=by unfold fP;rw[hr];rfl
  rw[e];rw[hr]at HR;clear e hr hb0 h hk3;go_enter Tryz.func23,Tryz.ntmps23
  go_wp2_with (go_at_call 65;refine HR.out.mono ?_);rintro e w1 ⟨rfl,hb1⟩;have HB1:=hid (bt HB0.out hb1);clear hb1;go_wp2
  go_ret
  exact⟨rfl,HB1.out⟩
 |true=>
  have hok:=Bo hr;have e:fP l r=bE l l.length r:=by unfold fP;rw[hr];rfl
  rw[e];rw[hr]at HR;obtain⟨hl1,hl2,hr1⟩:=jr hok.snd;have hrn:r=((l.length-1:Nat):Int):=by omega
  have hex:FH l:=Gn (jM hok.snd) hok.sh h.num;obtain⟨S,hS⟩:=Dj hok.snd;have hroot:Tr.aI (ag l ((l.length-1:Nat):Int)).kd=true:=by
   rw[aS (by omega)];exact hok.exp _ (List.getElem_mem _)
  have hlen:(bE l l.length ((l.length-1:Nat):Int)).length<=256000:=by
   have h1:=yu hok.sh hex hS l.length (l.length-1) (by omega);have h2:=hS.top (l.length-1) (by omega);omega
  have hne:bE l l.length ((l.length-1:Nat):Int)≠[]:=by
   obtain⟨q,hq⟩:∃q,l.length=q+1:=⟨l.length-1,by omega⟩;rw[hq]at hroot |-;exact Ow hok.sh (by omega) hroot
  have HC:=hid (show∀w2,Below w.heap.size w w2->Calls Tryz.prog 60 #[.agg #[.slice A l.length c,.int .i64 r],.int .i64 r,.func (.func 66) #[] #[]] w2 λe w'=>e=.returned (.string (lZ (bE l l.length r)))/\Below w2.heap.size w2 w' from λw2 q=>by
   have hin:=(h.below q).below (aa w2 (.cells #[.slice A l.length c,.int .i64 r] 25))
   have hpx:=hin.px hok.snd hex
   rw[hrn]
   refine yf A l.length c _ _ _ w2 _ rfl hne λw' q' hp' =>?_
   rw[hrn]at hpx
   have:=yc c _ hpx l.length (l.length-1) 0 [] w' (by omega) (by omega) hroot q' hp' (by show 0+_<=_;omega)
   rw[List.nil_append]at this
   exact this)
  clear hne hlen hroot hS hex hrn hr1 hl1 hl2 e hok hr hb0 h hk3;generalize bE l l.length r=y at *
  have e0:=(HX.out.cell 0).trans rfl;have e1:=(HX.out.cell 1).trans rfl;go_enter Tryz.func23,Tryz.ntmps23
  go_wp2_with (go_at_call 65;refine HR.out.mono ?_);rintro e w1 ⟨rfl,hb1⟩;have HB1:=hid (bt HB0.out hb1);have hx1:=HX.out.below hb1 (by rw[World.size_alloc];omega);clear e0 e1;have e0:=(hx1.cell 0).trans rfl;have e1:=(hx1.cell 1).trans rfl;clear hb1 hx1;go_wp2_with (go_at_call 60;refine(HC.out w1 HB1.out).mono ?_);rintro e w2 ⟨rfl,hb2⟩;have HB2:=hid (bt HB1.out hb2);clear hb2 e0 e1;go_wp2
  go_ret
  exact⟨rfl,HB2.out⟩
end
end Go.Proofs.YteecfjhjllajlaaGreatDoor
