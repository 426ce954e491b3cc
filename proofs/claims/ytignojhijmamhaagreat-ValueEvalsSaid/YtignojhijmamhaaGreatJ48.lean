/- PROVED here: parts Eh of the claim. No condition but those in each theorem's own head. -/
import Derived.Test.YtignojhijmamhaaGreatJ34
import Derived.Test.YtignojhijmamhaaGreatJ47
import Derived.Deep.DeepCutAuto
import Derived.Deep.LoopGhost
import Derived.Deep.RegionHeld3
namespace Go.Proofs.YtignojhijmamhaaGreat
open Go Go.RowKit Go.Sort
open Va (ap hpu h_one Bx heap1 bt VP VI V2 V3 IP str_eq str_ne below2 Hp C49 unR binR getV lenH tB bcell3 realloc)
open Ty (TT tpT pcT)
open Ty.Tr (Nd)
structure Rc (w:World) (A:Option Addr) (n:Nat) (l:List Nd) (B:Option Addr) (ns:List NV) (base g:Nat) (v:Value) (vs:List Value) (L:List (List Int)):Prop where
 tt:TT w A n l
 nm:Nms w B ns
 few:ns.length≤4000
 hp:Hp 40 C49 w base g v vs L
theorem Rc.below {w w':World}{A:Option Addr}{n:Nat}{l:List Nd}{B:Option Addr}{ns:List NV}{base g:Nat}{v:Value}{vs:List Value}{L:List (List Int)}(h:Rc w A n l B ns base g v vs L)(hb:Below w.heap.size w w'):Rc w' A n l B ns base g v vs L:=
 ⟨h.tt.below hb,h.nm.below hb,h.few,h.hp.below hb⟩
def ExTwo (l:List Nd):Prop:=∀p (hp:p<l.length),(l[p].kd=23∨l[p].kd=26→l[p].ks.length=1)∧(l[p].kd=27→l[p].ks.length=2)
def rowV (ev:Nat→(Int × Int) × Int)(ks:List Int):Nat→List Value
 |0=>[]
 |i+1=>rowV ev ks i++[.int .i64 (ev (ks.getD i 0).toNat).1.1,.int .i64 (ev (ks.getD i 0).toNat).1.2]
theorem rowV_one {ev:Nat→(Int × Int) × Int}{ks:List Int}(h:ks.length=1):rowV ev ks 1=[.int .i64 (opnd ev ks 1 0).1,.int .i64 (opnd ev ks 1 0).2]:=by
 match ks,h with
 | [a],_=>rfl
theorem rowV_two {ev:Nat→(Int × Int) × Int}{ks:List Int}(h:ks.length=2):rowV ev ks 2=[.int .i64 (opnd ev ks 2 0).1,.int .i64 (opnd ev ks 2 0).2,.int .i64 (opnd ev ks 2 1).1,.int .i64 (opnd ev ks 2 1).2]:=by
 match ks,h with
 | [a,b],_=>rfl
theorem own_bx {w:World}{base n:Nat}{v:Value}{xs:List Value}(h:w.ownsRow base 49 2 v n xs)(hn:0<n):∃g c cur,v = .slice (some ⟨g,0,none⟩) n c∧base≤g∧Bx w g 49 cur∧∀j,j<n*2→cur[j]?=xs[j]?:=by
 rcases h.2 with⟨_,e⟩ |⟨g,c,cur,e,hb,hg,_,_,hs,ht⟩
 ·omega
 ·refine⟨g,c,cur.toList,e,hb,by unfold Bx;rw[Array.toArray_toList];exact hg,fun j hj =>?_⟩
  rw[← ht,List.getElem?_take,if_pos hj]
theorem own_slice2 {w:World}{base n:Nat}{v:Value}{xs:List Value}(h:w.ownsRow base 49 2 v n xs):∃A c,v = .slice A n c:=by
 rcases h.2 with⟨e1,e2⟩ |⟨g,cap,cur,e1,_⟩
 ·exact⟨none,0,by rw[e1,e2]⟩
 ·exact⟨_,_,e1⟩
theorem info49:(Tryz.prog.info? 49).map (fun i=>(i.zero,i.size,i.bytes))=some (some (.agg #[.int .i64 0,.int .i64 0]),2,16):=by kernel_rfl
theorem two_one (a b:Int):∀u ∈ [Value.int .i64 a,.int .i64 b],u.oneCell'=true:=by intro u hu;simp at hu;rcases hu with rfl |rfl<;>rfl
theorem two_cells (w:World)(a b:Int)(t:TypeId):∀j u,[Value.int .i64 a,.int .i64 b][j]?=some u→(w.alloc (.cells #[.int .i64 a,.int .i64 b] t)).cell? ((⟨w.heap.size,0,none⟩:Addr).add j)=some u:=Va.blk_cells w [.int .i64 a,.int .i64 b] t
def S2 (b z:Nat)(c66 c49:List Value)(W:World):Prop:=Bx W b 66 c66∧Bx W z 49 c49
theorem S2.below {b z:Nat}{c66 c49:List Value}{W W':World}(h:S2 b z c66 c49 W)(k:Below W.heap.size W W'):S2 b z c66 c49 W':=⟨h.1.below k h.1.lt,h.2.below k h.2.lt⟩
theorem S2.far {b z g i:Nat}{c66 c49:List Value}{W:World}(h:S2 b z c66 c49 W)(h1:b≠g)(h2:z≠g)(u:Value):S2 b z c66 c49 (W.setCell ⟨g,i,none⟩ u):=⟨h.1.far (p:=⟨g,i,none⟩) h1 u,h.2.far (p:=⟨g,i,none⟩) h2 u⟩
theorem own43:Own 43:=⟨_,Tryz.func43,by kernel_rfl,by kernel_rfl⟩
theorem own18:Own 18:=⟨_,Tryz.func18,by kernel_rfl,by kernel_rfl⟩
section
variable {A:Option Addr} {n:Nat} {l:List Nd} {B:Option Addr} {ns:List NV} {base g:Nat} {v:Value} {vs:List Value} {L:List (List Int)}
set_option maxRecDepth 100000 in
set_option maxHeartbeats 4000000 in
theorem reval_any (hx:ExOk l)(hy:ExTwo l)(c d:Nat)(r:Int):∀(f p:Nat) (w:World),Rc w A n l B ns base g v vs L→p<f→(hp:p<l.length)→20≤l[p].kd→l[p].kd≤27→Calls Tryz.prog 24 #[.agg #[.slice A n c,.int .i64 r],.int .i64 (p:Int),.slice B ns.length d,.pointer (some ⟨g,0,none⟩)] w (VI (evV l r ns L f p).1.1 (evV l r ns L f p).1.2 (evV l r ns L f p).2 w):=by
 intro f
 induction f with
 |zero=>intro p w h hf;exact absurd hf (Nat.not_lt_zero p)
 |succ f ih=>
  intro p w h hf hpl hk1 hk2
  have IH:=Lib.hid (fun(k:Nat) (W:World) (b:Below w.heap.size w W) (hk:k<p) (hkl:k<l.length) (h1:20≤l[k].kd) (h2:l[k].kd≤27)=>ih k W (h.below b) (by omega) hkl h1 h2)
  have hln:=h.tt.len
  have HNM:=Lib.hid (fun(W:World) (b:Below w.heap.size w W) (s:ByteArray)=>rnamed_any (h.below b).nm h.few d s)
  have HGT:=Lib.hid (fun(W:World) (b:Below w.heap.size w W) (k n j i:Int)=>Va.rget_any (h.below b).hp k n j i)
  have HLN:=Lib.hid (fun(W:World) (b:Below w.heap.size w W) (k n:Int)=>Va.rlen_any (h.below b).hp k n)
  have HPC:=Lib.hid (fun(W:World) (b:Below w.heap.size w W) (nm:ByteArray)=>Ty.rProc_any (h.below b).tt c r nm)
  have HTY:=Lib.hid (fun(W:World) (b:Below w.heap.size w W)=>Ty.rType_any (h.below b).tt c r (p:Int))
  have HEX:=Lib.hid (hx p hpl hk1 hk2)
  obtain⟨m,hm⟩:∃m,ns.length=m:=⟨_,rfl⟩
  rw[hm]at IH HNM ⊢
  have hpz:(p:Int)<(n:Int):=by omega
  have hnth:Ty.Tr.nth l p=l[p]:=Ty.Tr.nth_eq hpl
  have hex:=hx p hpl hk1 hk2
  have htw:=hy p hpl
  obtain⟨bA,off,K,cK,e0,xt,x0,x1,x2,x3,x4,xI⟩:=Ty.node_at h.tt.nds (Below.refl _ w) p hpl
  subst e0
  obtain⟨q,hq⟩:∃q,l[p]'hpl=q:=⟨_,rfl⟩
  simp only[hq]at x0 x1 x2 x3 x4 xI HEX hnth hex htw hk1 hk2
  obtain⟨kd,nn,pl,tx,ks⟩:=q
  dsimp only at x0 x1 x2 x3 x4 xI HEX hex htw hk1 hk2
  obtain⟨mk,hmk⟩:∃mk,ks.length=mk:=⟨_,rfl⟩
  rw[hmk]at x4 htw
  have hm2:mk≤2:=by rw[← hmk];exact hex.1
  have HMK:=Lib.hid hmk
  have HXI:=Lib.hid xI
  have HNT:=Lib.hid hnth
  have HTW:=Lib.hid htw
  have hX0:=((Bx.new w 24 [.slice (some ⟨bA,off,none⟩) n c,.int .i64 r]).alloc (.cells #[.int .i64 0,.int .i64 0] 49)).alloc (.cells #[.int .i64 kd,.int .i64 nn,.int .i64 pl,.string tx,.slice K mk cK] 66)
  have hX1:=(Bx.new (w.alloc (.cells #[.slice (some ⟨bA,off,none⟩) n c,.int .i64 r] 24)) 49 [.int .i64 0,.int .i64 0]).alloc (.cells #[.int .i64 kd,.int .i64 nn,.int .i64 pl,.string tx,.slice K mk cK] 66)
  have hX2:=Bx.new ((w.alloc (.cells #[.slice (some ⟨bA,off,none⟩) n c,.int .i64 r] 24)).alloc (.cells #[.int .i64 0,.int .i64 0] 49)) 66 [.int .i64 kd,.int .i64 nn,.int .i64 pl,.string tx,.slice K mk cK]
  simp only[World.size_alloc]at hX1 hX2
  have hb0:Below w.heap.size w (((w.alloc (.cells #[.slice (some ⟨bA,off,none⟩) n c,.int .i64 r] 24)).alloc (.cells #[.int .i64 0,.int .i64 0] 49)).alloc (.cells #[.int .i64 kd,.int .i64 nn,.int .i64 pl,.string tx,.slice K mk cK] 66)):=((heap1 _ _).alloc (by simp only[World.size_alloc];omega) _).alloc (by simp only[World.size_alloc];omega) _
  have y0:=((heap1 w (.cells #[.slice (some ⟨bA,off,none⟩) n c,.int .i64 r] 24)).cell (p:=⟨bA,off+p*5,none⟩) xt).trans x0
  have hb2:Below w.heap.size w ((w.alloc (.cells #[.slice (some ⟨bA,off,none⟩) n c,.int .i64 r] 24)).alloc (.cells #[.int .i64 0,.int .i64 0] 49)):=(heap1 _ _).alloc (by simp only[World.size_alloc];omega) _
  have y0:=(hb2.cell (p:=⟨bA,off+p*5,none⟩) xt).trans x0
  have y1:=(hb2.cell (p:=⟨bA,off+p*5+1,none⟩) xt).trans x1
  have y2:=(hb2.cell (p:=⟨bA,off+p*5+2,none⟩) xt).trans x2
  have y3:=(hb2.cell (p:=⟨bA,off+p*5+3,none⟩) xt).trans x3
  have y4:=(hb2.cell (p:=⟨bA,off+p*5+4,none⟩) xt).trans x4
  clear hb2 x0 x1 x2 x3 x4
  have HX0':=Lib.hid hX0
  have HX1':=Lib.hid hX1
  have HX2':=Lib.hid hX2
  have HB0':=Lib.hid hb0
  clear hln h ih hX0 hX1 hX2 hb0 xI hex hnth hmk hm htw
  go_enter Tryz.func24,Tryz.ntmps24
  go_upto_region 3 with(fail)
  obtain⟨W0,hW0⟩:∃W0,(((w.alloc (.cells #[.slice (some ⟨bA,off,none⟩) n c,.int .i64 r] 24)).alloc (.cells #[.int .i64 0,.int .i64 0] 49)).alloc (.cells #[.int .i64 kd,.int .i64 nn,.int .i64 pl,.string tx,.slice K mk cK] 66))=W0:=⟨_,rfl⟩
  have HX0:=Lib.hid (show Bx W0 w.heap.size 24 [.slice (some ⟨bA,off,none⟩) n c,.int .i64 r]by rw[← hW0];exact HX0'.out)
  have HX1:=Lib.hid (show Bx W0 (w.heap.size+1) 49 [.int .i64 0,.int .i64 0]by rw[← hW0];exact HX1'.out)
  have HX2:=Lib.hid (show Bx W0 (w.heap.size+1+1) 66 [.int .i64 kd,.int .i64 nn,.int .i64 pl,.string tx,.slice K mk cK]by rw[← hW0];exact HX2'.out)
  have HB0:=Lib.hid (show Below w.heap.size w W0 by rw[← hW0];exact HB0'.out)
  rw[hW0]
  have hsz:W0.heap.size=w.heap.size+1+1+1:=by rw[← hW0];simp only[World.size_alloc]
  have HSZ:=Lib.hid hsz
  clear y0 y1 y2 y3 y4 hW0 HX0' HX1' HX2' HB0' hsz
  go_wp2
  go_loopg [11,12] mk (fun k v11 v12 wr=>∃i:Nat,i+k=mk∧v12 = .int .i64 (i:Int)∧(∀j (hj:j<ks.length),j<i→(evV l r ns L f (ks[j]).toNat).2=0)∧Below W0.heap.size W0 wr∧wr.ownsRow W0.heap.size 49 2 v11 i (rowV (evV l r ns L f) ks i))
  case atStart=>exact⟨0,Nat.zero_add _,rfl,fun j _ h=>absurd h (Nat.not_lt_zero j),Below.refl _ _,World.ownsRow_nil _ _ _ _⟩
  case round=>
   obtain⟨i,hi,rfl,herr,hb,hown⟩:=hrel
   obtain⟨W1,rfl⟩:∃W1,W1=wr:=⟨_,rfl⟩
   by_cases hlt:i<mk
   ·have hiz:(i:Int)<(mk:Int):=by omega
    have hil:i<ks.length:=by rw[HMK.out];exact hlt
    obtain⟨k,hk,hkp,hkl,g1,g2⟩:=HEX.out.2.2 (ks[i]'hil) (List.getElem_mem hil)
    have HBW:=Lib.hid (bt HB0.out hb)
    have HIH:=Lib.hid (fun(W:World) (q:Below W1.heap.size W1 W)=>IH.out k W (bt HBW.out q) hkp hkl g1 g2)
    obtain⟨bK,oK,rfl,hbK,hcK⟩:=HXI.out (by omega)
    have xk:=hcK i hil
    rw[hk]at xk
    obtain⟨⟨⟨u1,u2⟩,e1⟩,hu⟩:∃R,evV l r ns L f k=R:=⟨_,rfl⟩
    rw[hu]at HIH
    dsimp only at HIH
    obtain⟨A11,c11,rfl⟩:=own_slice2 hown
    have HOW:=Lib.hid hown
    have HGK:=Lib.hid hi
    have HZ:=Lib.hid (And.intro herr (And.intro hb (And.intro hu (And.intro hk hlt))))
    have HXK:=Lib.hid (show bK<w.heap.size∧w.cell? ⟨bK,oK+i,none⟩=some (.int .i64 (k:Int)) from⟨hbK,xk⟩)
    have a4:=((HX2.out.below hb HX2.out.lt).cell 4).trans rfl
    clear herr hb hown hu hk hcK hkp hkl g1 g2 xk hbK
    go_upto_region 6 with(fail)
    clear a4
    go_cut [13,14]from 25 to 51 (fun x y wx=>∃gg:Nat,x = .pointer (some ⟨gg,0,none⟩)∧y = .int .i64 e1∧Below W1.heap.size W1 wx∧gg<wx.heap.size∧wx.cell? ⟨gg,0,none⟩=some (.int .i64 u1)∧wx.cell? ⟨gg,1,none⟩=some (.int .i64 u2))
    case first=>
     have l0:∀w',Below W1.heap.size W1 w'→w'.cell? ⟨w.heap.size,0,none⟩=some (.slice (some ⟨bA,off,none⟩) n c):=fun w' q=>((HX0.out.below (bt HZ.out.2.1 q) HX0.out.lt).cell 0).trans rfl
     have l1:∀w',Below W1.heap.size W1 w'→w'.cell? ⟨w.heap.size,1,none⟩=some (.int .i64 r):=fun w' q=>((HX0.out.below (bt HZ.out.2.1 q) HX0.out.lt).cell 1).trans rfl
     have l2:∀w',Below W1.heap.size W1 w'→w'.cell? ⟨w.heap.size+1+1,4,none⟩=some (.slice (some ⟨bK,oK,none⟩) mk cK):=fun w' q=>((HX2.out.below (bt HZ.out.2.1 q) HX2.out.lt).cell 4).trans rfl
     have l3:∀w',Below W1.heap.size W1 w'→w'.cell? ⟨bK,oK+i,none⟩=some (.int .i64 (k:Int)):=fun w' q=>((bt HBW.out q).cell (p:=⟨bK,oK+i,none⟩) HXK.out.1).trans HXK.out.2
     go_region_held3 (fun w'=>Below W1.heap.size W1 w') (first|exact(Below.refl _ _).drew |exact bt (by assumption) (by assumption) |exact realloc (by assumption) (by assumption) |exact below2 (by assumption) (by assumption) |exact below2 (by assumption) (Nat.le_refl _) |exact Below.alloc (by assumption) (Below.size (by assumption)) _ |go_keep)
      ((go_at_call 24;refine(HIH.out _ (by assumption)).mono ?_;rintro e w1 ⟨rfl,hb1⟩;obtain⟨hcc,hff,hnn⟩:=bcell3 hb1;have hzz:W1.heap.size≤w1.heap.size:=(bt (by assumption) hb1).size;try (have hyy:W1.heap.size<w1.heap.size:=(by have hq:=hb1.size;(try rw[World.size_alloc]at hq);first|exact Nat.lt_of_lt_of_le (by assumption) hq |(simp at hq;omega)))))
     all_goals (go_wp2_with fail;go_meet;refine⟨_,rfl,rfl,by assumption,?_,?_,?_⟩)
     all_goals simp(maxDischargeDepth:=8) [go_sem, *]
    case rest=>
     obtain⟨gg,rfl,rfl,hbc,hgg,d0,d1⟩:=hcut
     obtain⟨W4,rfl⟩:∃W4,W4=wc:=⟨_,rfl⟩
     by_cases he:e1=0
     ·subst he
      have hown4:=Va.own_below HOW.out hbc
      have HB4:=Lib.hid (bt HZ.out.2.1 hbc)
      obtain⟨i0,hi0⟩:∃i0,Tryz.prog.info? 49=some i0:=by
       have h:=info49
       cases hq:Tryz.prog.info? 49 with
       |none=>rw[hq]at h;cases h
       |some i0=>exact⟨i0,rfl⟩
      have hz:=info49
      rw[hi0]at hz
      simp only[Option.map_some,Option.some.injEq,Prod.mk.injEq]at hz
      obtain⟨hz0,hz1,hz2⟩:=hz
      have hml:i+1≤maxLen:=by unfold maxLen;omega
      have hmb:(i+1)*16≤140737488355328:=by omega
      have hsb:W0.heap.size≤(W4.alloc (.cells #[.int .i64 u1,.int .i64 u2] 49)).heap.size:=by have:=HB4.out.size;simp only[World.size_alloc];omega
      have HM:=Lib.hid (And.intro hml (And.intro hmb (And.intro hsb (And.intro hown4 hi0))))
      have HI:=Lib.hid (And.intro hz0 (And.intro hz1 hz2))
      clear hml hmb hsb hown4 hi0 hz0 hz1 hz2 hbc hi
      go_wp2_with (at_builtin;refine wpList_append_own _ rfl _ _ 101 rfl W0.heap.size 49 i0 (.agg #[.int .i64 0,.int .i64 0]) 2 16 Tryz.underlying101 HM.out.2.2.2.2 HI.out.1 HI.out.2.1 HI.out.2.2 rfl (by decide) _ _ _ rfl (HM.out.2.2.2.1.alloc _) ⟨W4.heap.size,0,none⟩ 1 1 [.int .i64 u1,.int .i64 u2] rfl rfl (two_cells W4 u1 u2 49) (two_one u1 u2) HM.out.1 HM.out.2.1 HM.out.2.2.1 ?_)
      intro v' w5 hown5 hgrow5 _
      have hb5:Below W0.heap.size W0 w5:=(HB4.out.alloc HB4.out.size _).grown hgrow5 (by have:=HB4.out.size;simp only[World.size_alloc];omega) (fun q hq=>(HM.out.2.2.2.1.lt q hq).1)
      have hil:i<ks.length:=by rw[HMK.out];exact HZ.out.2.2.2.2
      have hget:ks.getD i 0=ks[i]'hil:=by rw[List.getD_eq_getElem?_getD,List.getElem?_eq_getElem hil];rfl
      have hev:evV l r ns L f (ks.getD i 0).toNat=((u1,u2),0):=by rw[hget,HZ.out.2.2.2.1,Int.toNat_natCast];exact HZ.out.2.2.1
      have hown6:w5.ownsRow W0.heap.size 49 2 v' (i+1) (rowV (evV l r ns L f) ks (i+1)):=by
       show w5.ownsRow W0.heap.size 49 2 v' (i+1) (rowV (evV l r ns L f) ks i++[.int .i64 (evV l r ns L f (ks.getD i 0).toNat).1.1,.int .i64 (evV l r ns L f (ks.getD i 0).toNat).1.2])
       rw[hev];exact hown5
      have HE:=Lib.hid (And.intro hb5 (And.intro hown6 (And.intro hget hev)))
      clear hown5 hgrow5 hb5 hown6 hget hev d0 d1 hgg
      go_wp2
      go_roundg (mk-(i+1))
      case measure=>have:=HZ.out.2.2.2.2;have:=HGK.out;omega
      case rel=>
       refine⟨i+1,by have:=HZ.out.2.2.2.2;omega,by go_num,fun j hj hji =>?_,HE.out.1,HE.out.2.1⟩
       by_cases e:j=i
       ·subst e
        have:=HE.out.2.2.2
        rw[HE.out.2.2.1]at this
        rw[this]
       ·exact HZ.out.1 j hj (by omega)
     ·have hne:(e1 != 0)=true:=by simpa using he
      have HO:=Lib.hid (show evV l r ns L (f+1) p=((0,0),e1)from evV_err (by
       rw[HNT.out]
       have hil:i<ks.length:=by rw[HMK.out];exact HZ.out.2.2.2.2
       have hek:evV l r ns L f (ks[i]'hil).toNat=((u1,u2),e1):=by rw[HZ.out.2.2.2.1,Int.toNat_natCast];exact HZ.out.2.2.1
       have:=kid_err (ev:=evV l r ns L f) ks i hil HZ.out.1 (by rw[hek];exact he)
       rw[hek]at this
       exact this))
      have y1:=HX1.out.below (bt HZ.out.2.1 hbc) HX1.out.lt
      have c0:=(y1.cell 0).trans rfl
      have c1:=(y1.cell 1).trans rfl
      have f0:=y1.frozen 0
      have f1:=y1.frozen 1
      have HQ:=Lib.hid (bt HBW.out hbc)
      clear he d0 d1 hgg hbc hi
      go_wp2
      have z:=(y1.set_ 0 (.int .i64 0)).set_ 1 (.int .i64 0)
      have c0:=(z.cell 0).trans rfl
      have c1:=(z.cell 1).trans rfl
      exact bodyPost_ret (v :=.tuple #[.agg #[.int .i64 0,.int .i64 0],.int .i64 e1]) (by simp[results,Tryz.results24,go_sem,c0,c1]) rfl (by rw[HO.out];exact⟨rfl,below2 HQ.out (by omega)⟩)
   ·obtain rfl:i=mk:=by omega
    have hiz:¬(i:Int)<(i:Int):=by omega
    have hall:=evV_all (l:=l) (ns:=ns) (L:=L) (r:=r) (f:=f) (p:=p) (by rw[HNT.out];exact fun j hj=>herr j hj (by rw[← HMK.out];exact hj))
    rw[HNT.out]at hall
    dsimp only at hall
    rw[HMK.out]at hall
    have HBW:=Lib.hid (bt HB0.out hb)
    have HX1a:=Lib.hid (HX1.out.below hb HX1.out.lt)
    have HX2a:=Lib.hid (HX2.out.below hb HX2.out.lt)
    have HX0a:=Lib.hid (HX0.out.below hb HX0.out.lt)
    obtain⟨A11,c11,e11⟩:=own_slice2 hown
    have HOW:=Lib.hid hown
    have HSB:=Lib.hid hb.size
    have n0:=(HX2a.out.cell 0).trans rfl
    have n1:=(HX2a.out.cell 1).trans rfl
    have n3:=(HX2a.out.cell 3).trans rfl
    have n4:=(HX2a.out.cell 4).trans rfl
    have b0:=(HX0a.out.cell 0).trans rfl
    have b1:=(HX0a.out.cell 1).trans rfl
    have r0:=(HX1a.out.cell 0).trans rfl
    have r1:=(HX1a.out.cell 1).trans rfl
    have f0:=HX1a.out.frozen 0
    have f1:=HX1a.out.frozen 1
    have HNM1:=Lib.hid (HNM.out W1 HBW.out)
    have HPC1:=Lib.hid (HPC.out W1 HBW.out)
    have HALL:=Lib.hid hall
    clear herr hb hown hall hi
    rcases(show kd=20∨kd=21∨kd=22∨kd=23∨kd=24∨kd=25∨kd=26∨kd=27 by omega)with rfl |rfl |rfl |rfl |rfl |rfl |rfl |rfl
    ·have HO:=Lib.hid (show evV l r ns L (f+1) p=((1,nn),0)by rw[HALL.out];unfold mdV;rw[if_pos rfl])
     clear HNM1 HPC1
     go_wp2
     have z:=(HX1a.out.set_ 0 (.int .i64 1)).set_ 1 (.int .i64 nn)
     have c0:=(z.cell 0).trans rfl
     have c1:=(z.cell 1).trans rfl
     exact bodyPost_ret (v :=.tuple #[.agg #[.int .i64 1,.int .i64 nn],.int .i64 0]) (by simp[results,Tryz.results24,go_sem,c0,c1]) rfl (by rw[HO.out];exact⟨rfl,below2 HBW.out (by omega)⟩)
    ·have HO:=Lib.hid (show evV l r ns L (f+1) p=((2,nn),0)by rw[HALL.out];unfold mdV;rw[if_neg (by decide:¬(21:Int)=20)];rw[if_pos rfl])
     clear HNM1 HPC1
     go_wp2
     have z:=(HX1a.out.set_ 0 (.int .i64 2)).set_ 1 (.int .i64 nn)
     have c0:=(z.cell 0).trans rfl
     have c1:=(z.cell 1).trans rfl
     exact bodyPost_ret (v :=.tuple #[.agg #[.int .i64 2,.int .i64 nn],.int .i64 0]) (by simp[results,Tryz.results24,go_sem,c0,c1]) rfl (by rw[HO.out];exact⟨rfl,below2 HBW.out (by omega)⟩)
    ·obtain⟨⟨u1,u2⟩,hu⟩:∃R,named ns tx=R:=⟨_,rfl⟩
     have HO:=Lib.hid (show evV l r ns L (f+1) p=((u1,u2),0)by rw[HALL.out];unfold mdV;rw[if_neg (by decide:¬(22:Int)=20)];rw[if_neg (by decide:¬(22:Int)=21)];rw[if_pos rfl];rw[hu])
     have HC:=Lib.hid (HNM1.out tx)
     rw[hu]at HC
     dsimp only at HC
     clear hu r0 r1 f0 f1
     go_wp2_with (go_at_call 43;refine HC.out.mono ?_)
     rintro e w3 ⟨rfl,hb3⟩
     have y1:=HX1a.out.below hb3 HX1a.out.lt
     have r0:=(y1.cell 0).trans rfl
     have r1:=(y1.cell 1).trans rfl
     have f0:=y1.frozen 0
     have f1:=y1.frozen 1
     have HQ:=Lib.hid (bt HBW.out hb3)
     go_wp2
     have z:=(y1.set_ 0 (.int .i64 u1)).set_ 1 (.int .i64 u2)
     have c0:=(z.cell 0).trans rfl
     have c1:=(z.cell 1).trans rfl
     exact bodyPost_ret (v :=.tuple #[.agg #[.int .i64 u1,.int .i64 u2],.int .i64 0]) (by simp[results,Tryz.results24,go_sem,c0,c1]) rfl (by rw[HO.out];exact⟨rfl,below2 HQ.out (by omega)⟩)
    ·have hlen:i=1:=HTW.out.1 (.inl rfl)
     subst hlen
     obtain⟨rb,rc,cur,er,hrb,HCUR,hcur⟩:=own_bx HOW.out (by decide)
     subst er
     injection e11 with e11a e11b e11c
     rw[rowV_one HMK.out]at hcur
     have HALL2:=Lib.hid HALL.out
     generalize (opnd (evV l r ns L f) ks 1 0).1=k1 at *
     generalize (opnd (evV l r ns L f) ks 1 0).2=n1' at *
     generalize (opnd (evV l r ns L f) ks 1 1).1=k2 at *
     generalize (opnd (evV l r ns L f) ks 1 1).2=n2' at *
     have HC0:=Lib.hid (show cur[0]?=some (.int .i64 k1)from hcur 0 (by decide))
     have HC1:=Lib.hid (show cur[1]?=some (.int .i64 n1')from hcur 1 (by decide))
     have HCU:=Lib.hid HCUR
     have HRB:=Lib.hid (show w.heap.size+1<rb by have:=HSZ.out;omega)
     obtain⟨⟨u1,u2⟩,hu⟩:∃R,named ns tx=R:=⟨_,rfl⟩
     obtain⟨⟨⟨y1,y2⟩,e0⟩,hy⟩:∃R,getV L u1 u2 k1 n1'=R:=⟨_,rfl⟩
     have HO:=Lib.hid (show evV l r ns L (f+1) p=((y1,y2),e0)by rw[HALL.out];unfold mdV;rw[if_neg (by decide:¬(23:Int)=20)];rw[if_neg (by decide:¬(23:Int)=21)];rw[if_neg (by decide:¬(23:Int)=22)];rw[if_pos rfl];rw[hu];exact hy)
     have HVT:=Lib.hid (fun W b=>HNM.out W b tx)
     rw[hu]at HVT
     have HGG:=Lib.hid (fun W b=>HGT.out W b u1 u2 k1 n1')
     rw[hy]at HGG
     dsimp only at HVT HGG
     clear hu hy hcur HCUR hrb e11a e11b e11c
     go_upto_region 18 with(fail)
     clear n0 n1 n3 n4 b0 b1 r0 r1 f0 f1
     refine wp_region_held (S:=(S2 (w.heap.size+1+1) rb [.int .i64 23,.int .i64 nn,.int .i64 pl,.string tx,.slice K 1 cK] cur)) (by kernel_rfl) ?_
     have hS:(S2 (w.heap.size+1+1) rb [.int .i64 23,.int .i64 nn,.int .i64 pl,.string tx,.slice K 1 cK] cur) ({ W1 with drawn:=W1.drawn+1 }:World):=(show S2 (w.heap.size+1+1) rb [.int .i64 23,.int .i64 nn,.int .i64 pl,.string tx,.slice K 1 cK] cur W1 from⟨HX2a.out,HCU.out⟩).below (Below.refl _ _).drew
     have hq:Below W1.heap.size W1 ({ W1 with drawn:=W1.drawn+1 }:World):=(Below.refl _ _).drew
     generalize ({ W1 with drawn:=W1.drawn+1 }:World)=V0 at *
     refine hpu 0 (o:=({ dst:=some 72,op:=Op.move (Operand.tmp 3),type:=38,pos := "ref.go:204",after := #[],guard:=none }:Oper)) (.pointer (some ⟨g,0,none⟩)) (by kernel_rfl) rfl rfl (fun _ _ _ h=>h) rfl (by intro w' hSw;have e3:=(hSw.1.cell 3).trans rfl;have i0:=(hSw.2.cell 0).trans HC0.out;have i1:=(hSw.2.cell 1).trans HC1.out;clear hSw;go_simp) hS ?_
     try simp only[ap]
     refine hpu 1 (o:=({ dst:=some 73,op:=Op.move (Operand.tmp 2),type:=46,pos := "ref.go:204",after := #[],guard:=none }:Oper)) (.slice B m d) (by kernel_rfl) rfl rfl (fun _ _ _ h=>h) rfl (by intro w' hSw;have e3:=(hSw.1.cell 3).trans rfl;have i0:=(hSw.2.cell 0).trans HC0.out;have i1:=(hSw.2.cell 1).trans HC1.out;clear hSw;go_simp) hS ?_
     try simp only[ap]
     refine hpu 2 (o:=({ dst:=some 74,op:=Op.fieldAddr 66 (Operand.tmp 10) 3,type:=0,pos := "ref.go:204",after := #[],guard:=none }:Oper)) (.pointer (some ⟨w.heap.size+1+1,3,none⟩)) (by kernel_rfl) rfl rfl (fun _ _ _ h=>h) rfl (by intro w' hSw;have e3:=(hSw.1.cell 3).trans rfl;have i0:=(hSw.2.cell 0).trans HC0.out;have i1:=(hSw.2.cell 1).trans HC1.out;clear hSw;go_simp) hS ?_
     try simp only[ap]
     refine hpu 3 (o:=({ dst:=some 75,op:=Op.load 9 (Operand.tmp 74),type:=9,pos := "ref.go:204",after := #[{ on:=2,ground:=Ground.data }],guard:=none }:Oper)) (.string tx) (by kernel_rfl) rfl rfl (fun _ _ _ h=>h) rfl (by intro w' hSw;have e3:=(hSw.1.cell 3).trans rfl;have i0:=(hSw.2.cell 0).trans HC0.out;have i1:=(hSw.2.cell 1).trans HC1.out;clear hSw;go_simp) hS ?_
     try simp only[ap]
     refine hpu 5 (o:=({ dst:=some 77,op:=Op.move (Operand.tmp 11),type:=101,pos := "ref.go:204",after := #[],guard:=none }:Oper)) (.slice (some ⟨rb,0,none⟩) 1 rc) (by kernel_rfl) rfl rfl (fun _ _ _ h=>h) rfl (by intro w' hSw;have e3:=(hSw.1.cell 3).trans rfl;have i0:=(hSw.2.cell 0).trans HC0.out;have i1:=(hSw.2.cell 1).trans HC1.out;clear hSw;go_simp) hS ?_
     try simp only[ap]
     refine hpu 6 (o:=({ dst:=some 78,op:=Op.indexAddr 101 (Operand.tmp 77) (Operand.const (Value.int IntKind.i64 0)),type:=0,pos := "ref.go:204",after := #[{ on:=5,ground:=Ground.data }],guard:=none }:Oper)) (.pointer (some ⟨rb,0,none⟩)) (by kernel_rfl) rfl rfl (fun _ _ _ h=>h) rfl (by intro w' hSw;have e3:=(hSw.1.cell 3).trans rfl;have i0:=(hSw.2.cell 0).trans HC0.out;have i1:=(hSw.2.cell 1).trans HC1.out;clear hSw;go_simp) hS ?_
     try simp only[ap]
     refine hpu 7 (o:=({ dst:=some 79,op:=Op.load 49 (Operand.tmp 78),type:=49,pos := "ref.go:204",after := #[{ on:=6,ground:=Ground.data }],guard:=none }:Oper)) (.agg #[.int .i64 k1,.int .i64 n1']) (by kernel_rfl) rfl rfl (fun _ _ _ h=>h) rfl (by intro w' hSw;have e3:=(hSw.1.cell 3).trans rfl;have i0:=(hSw.2.cell 0).trans HC0.out;have i1:=(hSw.2.cell 1).trans HC1.out;clear hSw;go_simp) hS ?_
     try simp only[ap]
     refine h_call 4 ({ dst:=some 76,op:=Op.call { callee:=Callee.value (Operand.func 43),args := #[Operand.tmp 73,Operand.tmp 75],argTypes := #[46,9] },type:=49,pos := "ref.go:204",after := #[{ on:=1,ground:=Ground.data },{ on:=3,ground:=Ground.data }],guard:=none }:Oper) (fun v w1=>v = .agg #[.int .i64 u1,.int .i64 u2]∧Below V0.heap.size V0 w1) own43 rfl rfl rfl (by kernel_rfl) rfl (args := #[.slice B m d,.string tx]) rfl (((HVT.out _ (bt HBW.out hq)).mono fun e w1 q=>⟨_,q.1,rfl,q.2⟩)) ?_
     rintro v V1 ⟨rfl,hb5⟩
     have hS:=hS.below hb5
     have hq:=bt hq hb5
     refine⟨hS,?_⟩
     try simp only[ap]
     refine h_call 8 ({ dst:=some 80,op:=Op.call { callee:=Callee.value (Operand.func 18),args := #[Operand.tmp 72,Operand.tmp 76,Operand.tmp 79],argTypes := #[38,49,49] },type:=55,pos := "ref.go:204",after := #[{ on:=0,ground:=Ground.data },{ on:=4,ground:=Ground.data },{ on:=7,ground:=Ground.data },{ on:=4,ground:=Ground.chain }],guard:=none }:Oper) (fun v w1=>v = .tuple #[.agg #[.int .i64 y1,.int .i64 y2],.int .i64 e0]∧Below V1.heap.size V1 w1) own18 rfl rfl rfl (by kernel_rfl) rfl (args := #[.pointer (some ⟨g,0,none⟩),.agg #[.int .i64 u1,.int .i64 u2],.agg #[.int .i64 k1,.int .i64 n1']]) rfl (((HGG.out _ (bt HBW.out hq)).mono fun e w1 q=>⟨_,q.1,rfl,q.2⟩)) ?_
     rintro v V2 ⟨rfl,hb6⟩
     have hS:=hS.below hb6
     have hq:=bt hq hb6
     refine⟨hS,?_⟩
     try simp only[ap]
     refine hpu 9 (o:=({ dst:=some 81,op:=Op.extract (Operand.tmp 80) 0,type:=49,pos := "ref.go:204",after := #[{ on:=8,ground:=Ground.data }],guard:=none }:Oper)) (.agg #[.int .i64 y1,.int .i64 y2]) (by kernel_rfl) rfl rfl (fun _ _ _ h=>h) rfl (by intro w' hSw;have e3:=(hSw.1.cell 3).trans rfl;have i0:=(hSw.2.cell 0).trans HC0.out;have i1:=(hSw.2.cell 1).trans HC1.out;clear hSw;go_simp) hS ?_
     try simp only[ap]
     refine hpu 10 (o:=({ dst:=some 82,op:=Op.extract (Operand.tmp 80) 1,type:=3,pos := "ref.go:204",after := #[{ on:=8,ground:=Ground.data }],guard:=none }:Oper)) (.int .i64 e0) (by kernel_rfl) rfl rfl (fun _ _ _ h=>h) rfl (by intro w' hSw;have e3:=(hSw.1.cell 3).trans rfl;have i0:=(hSw.2.cell 0).trans HC0.out;have i1:=(hSw.2.cell 1).trans HC1.out;clear hSw;go_simp) hS ?_
     try simp only[ap]
     refine h_oneK 11 ({ dst:=none,op:=Op.store 49 (Operand.tmp 8) (Operand.tmp 81),type:=0,pos := "ref.go:204",after := #[{ on:=9,ground:=Ground.data },{ on:=8,ground:=Ground.chain },{ on:=0,ground:=Ground.phase },{ on:=1,ground:=Ground.phase },{ on:=2,ground:=Ground.phase },{ on:=3,ground:=Ground.phase },{ on:=4,ground:=Ground.phase },{ on:=5,ground:=Ground.phase },{ on:=6,ground:=Ground.phase },{ on:=7,ground:=Ground.phase },{ on:=8,ground:=Ground.phase },{ on:=9,ground:=Ground.phase },{ on:=10,ground:=Ground.phase }],guard:=none }:Oper) rfl (by kernel_rfl) rfl (fun K2 hK2 =>?_)
     have t0:=((HX1a.out.below hq HX1a.out.lt).cell 0).trans rfl
     have t1:=((HX1a.out.below hq HX1a.out.lt).cell 1).trans rfl
     have f0:=(HX1a.out.below hq HX1a.out.lt).frozen 0
     have f1:=(HX1a.out.below hq HX1a.out.lt).frozen 1
     go_simp
     refine hK2.out _ _ ((hS.far (by omega) (by have:=HRB.out;omega) _).far (by omega) (by have:=HRB.out;omega) _) (fun hS2 =>?_)
     clear hK2 K2 t0 t1 f0 f1
     replace hS:=hS2
     clear hS2
     try simp only[ap]
     refine hpu 12 (o:=({ dst:=some 9,op:=Op.assign (Operand.tmp 82),type:=3,pos := "ref.go:204",after := #[{ on:=10,ground:=Ground.data },{ on:=11,ground:=Ground.chain },{ on:=0,ground:=Ground.phase },{ on:=1,ground:=Ground.phase },{ on:=2,ground:=Ground.phase },{ on:=3,ground:=Ground.phase },{ on:=4,ground:=Ground.phase },{ on:=5,ground:=Ground.phase },{ on:=6,ground:=Ground.phase },{ on:=7,ground:=Ground.phase },{ on:=8,ground:=Ground.phase },{ on:=9,ground:=Ground.phase },{ on:=10,ground:=Ground.phase },{ on:=11,ground:=Ground.phase }],guard:=none }:Oper)) (.int .i64 e0) (by kernel_rfl) rfl rfl (fun _ _ _ h=>h) rfl (by intro w' hSw;have e3:=(hSw.1.cell 3).trans rfl;have i0:=(hSw.2.cell 0).trans HC0.out;have i1:=(hSw.2.cell 1).trans HC1.out;clear hSw;go_simp) hS ?_
     try simp only[ap]
     refine wpAnyH_done (by kernel_rfl) ?_ _
     have HQ:=Lib.hid (bt HBW.out hq)
     have Y1:=HX1a.out.below hq HX1a.out.lt
     clear hS hq hb5 hb6
     go_wp2
     have z:=(Y1.set_ 0 (.int .i64 y1)).set_ 1 (.int .i64 y2)
     have c0:=(z.cell 0).trans rfl
     have c1:=(z.cell 1).trans rfl
     exact bodyPost_ret (v :=.tuple #[.agg #[.int .i64 y1,.int .i64 y2],.int .i64 e0]) (by simp[results,Tryz.results24,go_sem,c0,c1]) rfl (by rw[HO.out];exact⟨rfl,below2 HQ.out (by omega)⟩)
    ·obtain⟨⟨u1,u2⟩,hu⟩:∃R,named ns tx=R:=⟨_,rfl⟩
     obtain⟨zl,hz⟩:∃zl,lenH L u1 u2=zl:=⟨_,rfl⟩
     have HO:=Lib.hid (show evV l r ns L (f+1) p=((1,zl),0)by rw[HALL.out];unfold mdV;rw[if_neg (by decide:¬(24:Int)=20)];rw[if_neg (by decide:¬(24:Int)=21)];rw[if_neg (by decide:¬(24:Int)=22)];rw[if_neg (by decide:¬(24:Int)=23)];rw[if_pos rfl];rw[hu];dsimp only;rw[hz])
     have HC:=Lib.hid (HNM1.out tx)
     rw[hu]at HC
     dsimp only at HC
     have HLL:=Lib.hid (fun W b=>HLN.out W b u1 u2)
     rw[hz]at HLL
     clear hu hz r0 r1 f0 f1
     go_wp2_with (go_at_call 43;refine HC.out.mono ?_)
     rintro e w3 ⟨rfl,hb3⟩
     have HL3:=Lib.hid (HLL.out w3 (bt HBW.out hb3))
     go_wp2_with (go_at_call 44;refine HL3.out.mono ?_)
     rintro e w4 ⟨rfl,hb4⟩
     have y1:=HX1a.out.below (bt hb3 hb4) HX1a.out.lt
     have r0:=(y1.cell 0).trans rfl
     have r1:=(y1.cell 1).trans rfl
     have f0:=y1.frozen 0
     have f1:=y1.frozen 1
     have HQ:=Lib.hid (bt HBW.out (bt hb3 hb4))
     go_wp2
     have z:=(y1.set_ 0 (.int .i64 1)).set_ 1 (.int .i64 zl)
     have c0:=(z.cell 0).trans rfl
     have c1:=(z.cell 1).trans rfl
     exact bodyPost_ret (v :=.tuple #[.agg #[.int .i64 1,.int .i64 zl],.int .i64 0]) (by simp[results,Tryz.results24,go_sem,c0,c1]) rfl (by rw[HO.out];exact⟨rfl,below2 HQ.out (by omega)⟩)
    ·obtain⟨pc,hpc⟩:∃pc,pcT l r tx=pc:=⟨_,rfl⟩
     have HO:=Lib.hid (show evV l r ns L (f+1) p=((4,wrap64 (pc+1)),0)by rw[HALL.out];unfold mdV;rw[if_neg (by decide:¬(25:Int)=20)];rw[if_neg (by decide:¬(25:Int)=21)];rw[if_neg (by decide:¬(25:Int)=22)];rw[if_neg (by decide:¬(25:Int)=23)];rw[if_neg (by decide:¬(25:Int)=24)];rw[if_pos rfl];rw[hpc,Int.add_comm 1 pc])
     have HC:=Lib.hid (HPC1.out tx)
     rw[hpc]at HC
     clear hpc r0 r1 f0 f1
     go_wp2_with (go_at_call 45;refine HC.out.mono ?_)
     rintro e w3 ⟨rfl,hb3⟩
     have y1:=HX1a.out.below hb3 HX1a.out.lt
     have r0:=(y1.cell 0).trans rfl
     have r1:=(y1.cell 1).trans rfl
     have f0:=y1.frozen 0
     have f1:=y1.frozen 1
     have HQ:=Lib.hid (bt HBW.out hb3)
     go_wp2
     have z:=(y1.set_ 0 (.int .i64 4)).set_ 1 (.int .i64 (wrap64 (pc+1)))
     have c0:=(z.cell 0).trans rfl
     have c1:=(z.cell 1).trans rfl
     exact bodyPost_ret (v :=.tuple #[.agg #[.int .i64 4,.int .i64 (wrap64 (pc+1))],.int .i64 0]) (by simp[results,Tryz.results24,go_sem,c0,c1]) rfl (by rw[HO.out];exact⟨rfl,below2 HQ.out (by omega)⟩)
    ·have hlen:i=1:=HTW.out.1 (.inr rfl)
     subst hlen
     obtain⟨rb,rc,cur,er,hrb,HCUR,hcur⟩:=own_bx HOW.out (by decide)
     subst er
     injection e11 with e11a e11b e11c
     rw[rowV_one HMK.out]at hcur
     generalize (opnd (evV l r ns L f) ks 1 0).1=k1 at *
     generalize (opnd (evV l r ns L f) ks 1 0).2=n1' at *
     generalize (opnd (evV l r ns L f) ks 1 1).1=k2 at *
     generalize (opnd (evV l r ns L f) ks 1 1).2=n2' at *
     have HC0:=Lib.hid (show cur[0]?=some (.int .i64 k1)from hcur 0 (by decide))
     have HC1:=Lib.hid (show cur[1]?=some (.int .i64 n1')from hcur 1 (by decide))
     have HCU:=Lib.hid HCUR
     have HU:=Lib.hid (fun W=>Va.runary_any tx k1 n1' W)
     obtain⟨⟨⟨u1,u2⟩,ok⟩,hu⟩:∃R,unR tx k1 n1'=R:=⟨_,rfl⟩
     have HO:=Lib.hid (show evV l r ns L (f+1) p=(if ok=true then ((u1,u2),0) else ((tpT l r (p:Int),0),0))by rw[HALL.out];unfold mdV;rw[if_neg (by decide:¬(26:Int)=20)];rw[if_neg (by decide:¬(26:Int)=21)];rw[if_neg (by decide:¬(26:Int)=22)];rw[if_neg (by decide:¬(26:Int)=23)];rw[if_neg (by decide:¬(26:Int)=24)];rw[if_neg (by decide:¬(26:Int)=25)];unfold opV;rw[if_pos rfl,hu])
     rw[hu]at HU
     dsimp only at HU
     clear hu hcur HCUR hrb e11a e11b e11c
     go_upto_region 24 with(fail)
     clear n0 n1 n3 n4 b0 b1 r0 r1 f0 f1
     go_cut [15,16] (fun x y wx=>∃gg:Nat,x = .pointer (some ⟨gg,0,none⟩)∧y = .bool ok∧Below W1.heap.size W1 wx∧gg<wx.heap.size∧wx.cell? ⟨gg,0,none⟩=some (.int .i64 u1)∧wx.cell? ⟨gg,1,none⟩=some (.int .i64 u2))
     case first=>
      have l0:∀w',Below W1.heap.size W1 w'→w'.cell? ⟨w.heap.size+1+1,3,none⟩=some (.string tx):=fun w' q=>((HX2a.out.below q HX2a.out.lt).cell 3).trans rfl
      have l1:∀w',Below W1.heap.size W1 w'→w'.cell? ⟨rb,0,none⟩=some (.int .i64 k1):=fun w' q=>((HCU.out.below q HCU.out.lt).cell 0).trans HC0.out
      have l2:∀w',Below W1.heap.size W1 w'→w'.cell? ⟨rb,1,none⟩=some (.int .i64 n1'):=fun w' q=>((HCU.out.below q HCU.out.lt).cell 1).trans HC1.out
      go_region_held3 (fun w'=>Below W1.heap.size W1 w') (first|exact(Below.refl _ _).drew |exact bt (by assumption) (by assumption) |exact realloc (by assumption) (by assumption) |exact below2 (by assumption) (by assumption) |exact below2 (by assumption) (Nat.le_refl _) |exact Below.alloc (by assumption) (Below.size (by assumption)) _ |go_keep)
       ((go_at_call 46;refine(HU.out _).mono ?_;rintro e w1 ⟨rfl,hb1⟩;obtain⟨hcc,hff,hnn⟩:=bcell3 hb1;have hzz:W1.heap.size≤w1.heap.size:=(bt (by assumption) hb1).size;try (have hyy:W1.heap.size<w1.heap.size:=(by have hq:=hb1.size;(try rw[World.size_alloc]at hq);first|exact Nat.lt_of_lt_of_le (by assumption) hq |(simp at hq;omega)))))
      all_goals (go_wp2_with fail;go_meet;refine⟨_,rfl,rfl,by assumption,?_,?_,?_⟩)
      all_goals simp(maxDischargeDepth:=8) [go_sem, *]
     case rest=>
      obtain⟨gg,rfl,rfl,hbc,hgg,d0,d1⟩:=hcut
      obtain⟨W4,rfl⟩:∃W4,W4=wc:=⟨_,rfl⟩
      have HQ:=Lib.hid (bt HBW.out hbc)
      have HX1b:=Lib.hid (HX1a.out.below hbc HX1a.out.lt)
      have HX0b:=Lib.hid (HX0a.out.below hbc HX0a.out.lt)
      clear hbc
      cases ok with
      |true=>
       rw[if_pos rfl]at HO
       have r0:=(HX1b.out.cell 0).trans rfl
       have r1:=(HX1b.out.cell 1).trans rfl
       have f0:=HX1b.out.frozen 0
       have f1:=HX1b.out.frozen 1
       go_wp2
       have z:=(HX1b.out.set_ 0 (.int .i64 u1)).set_ 1 (.int .i64 u2)
       have c0:=(z.cell 0).trans rfl
       have c1:=(z.cell 1).trans rfl
       exact bodyPost_ret (v :=.tuple #[.agg #[.int .i64 u1,.int .i64 u2],.int .i64 0]) (by simp[results,Tryz.results24,go_sem,c0,c1]) rfl (by rw[HO.out];exact⟨rfl,below2 HQ.out (by omega)⟩)
      |false=>
       rw[if_neg (by decide)]at HO
       have b0:=(HX0b.out.cell 0).trans rfl
       have b1:=(HX0b.out.cell 1).trans rfl
       have HT4:=Lib.hid (HTY.out W4 HQ.out)
       obtain⟨ty,hty⟩:∃ty,tpT l r (p:Int)=ty:=⟨_,rfl⟩
       rw[hty]at HT4 HO
       clear hty d0 d1 hgg
       go_wp2_with (go_at_call 47;refine HT4.out.mono ?_)
       rintro e w5 ⟨rfl,hb5⟩
       have y1:=HX1b.out.below hb5 HX1b.out.lt
       have r0:=(y1.cell 0).trans rfl
       have r1:=(y1.cell 1).trans rfl
       have f0:=y1.frozen 0
       have f1:=y1.frozen 1
       have HQ5:=Lib.hid (bt HQ.out hb5)
       go_wp2
       have z:=(y1.set_ 0 (.int .i64 ty)).set_ 1 (.int .i64 0)
       have c0:=(z.cell 0).trans rfl
       have c1:=(z.cell 1).trans rfl
       exact bodyPost_ret (v :=.tuple #[.agg #[.int .i64 ty,.int .i64 0],.int .i64 0]) (by simp[results,Tryz.results24,go_sem,c0,c1]) rfl (by rw[HO.out];exact⟨rfl,below2 HQ5.out (by omega)⟩)
    ·have hlen:i=2:=HTW.out.2 rfl
     subst hlen
     obtain⟨rb,rc,cur,er,hrb,HCUR,hcur⟩:=own_bx HOW.out (by decide)
     subst er
     injection e11 with e11a e11b e11c
     rw[rowV_two HMK.out]at hcur
     generalize (opnd (evV l r ns L f) ks 2 0).1=k1 at *
     generalize (opnd (evV l r ns L f) ks 2 0).2=n1' at *
     generalize (opnd (evV l r ns L f) ks 2 1).1=k2 at *
     generalize (opnd (evV l r ns L f) ks 2 1).2=n2' at *
     have HC0:=Lib.hid (show cur[0]?=some (.int .i64 k1)from hcur 0 (by decide))
     have HC1:=Lib.hid (show cur[1]?=some (.int .i64 n1')from hcur 1 (by decide))
     have HC2:=Lib.hid (show cur[2]?=some (.int .i64 k2)from hcur 2 (by decide))
     have HC3:=Lib.hid (show cur[3]?=some (.int .i64 n2')from hcur 3 (by decide))
     have HCU:=Lib.hid HCUR
     have HU:=Lib.hid (fun W=>Va.rbinary_any tx k1 n1' k2 n2' W)
     obtain⟨⟨⟨u1,u2⟩,e0,ok⟩,hu⟩:∃R,binR tx k1 n1' k2 n2'=R:=⟨_,rfl⟩
     have HO:=Lib.hid (show evV l r ns L (f+1) p=(if ok=true then ((u1,u2),e0) else ((tpT l r (p:Int),0),0))by rw[HALL.out];unfold mdV;rw[if_neg (by decide:¬(27:Int)=20)];rw[if_neg (by decide:¬(27:Int)=21)];rw[if_neg (by decide:¬(27:Int)=22)];rw[if_neg (by decide:¬(27:Int)=23)];rw[if_neg (by decide:¬(27:Int)=24)];rw[if_neg (by decide:¬(27:Int)=25)];unfold opV;rw[if_neg (by decide:¬(27:Int)=26),hu])
     rw[hu]at HU
     dsimp only at HU
     clear hu hcur HCUR hrb e11a e11b e11c
     go_upto_region 28 with(fail)
     clear n0 n1 n3 n4 b0 b1 r0 r1 f0 f1
     go_cut [17,18,19] (fun x q y wx=>∃gg:Nat,x = .pointer (some ⟨gg,0,none⟩)∧q = .int .i64 e0∧y = .bool ok∧Below W1.heap.size W1 wx∧gg<wx.heap.size∧wx.cell? ⟨gg,0,none⟩=some (.int .i64 u1)∧wx.cell? ⟨gg,1,none⟩=some (.int .i64 u2))
     case first=>
      have l0:∀w',Below W1.heap.size W1 w'→w'.cell? ⟨w.heap.size+1+1,3,none⟩=some (.string tx):=fun w' q=>((HX2a.out.below q HX2a.out.lt).cell 3).trans rfl
      have l1:∀w',Below W1.heap.size W1 w'→w'.cell? ⟨rb,0,none⟩=some (.int .i64 k1):=fun w' q=>((HCU.out.below q HCU.out.lt).cell 0).trans HC0.out
      have l2:∀w',Below W1.heap.size W1 w'→w'.cell? ⟨rb,1,none⟩=some (.int .i64 n1'):=fun w' q=>((HCU.out.below q HCU.out.lt).cell 1).trans HC1.out
      have l3:∀w',Below W1.heap.size W1 w'→w'.cell? ⟨rb,2,none⟩=some (.int .i64 k2):=fun w' q=>((HCU.out.below q HCU.out.lt).cell 2).trans HC2.out
      have l4:∀w',Below W1.heap.size W1 w'→w'.cell? ⟨rb,3,none⟩=some (.int .i64 n2'):=fun w' q=>((HCU.out.below q HCU.out.lt).cell 3).trans HC3.out
      go_region_held3 (fun w'=>Below W1.heap.size W1 w') (first|exact(Below.refl _ _).drew |exact bt (by assumption) (by assumption) |exact realloc (by assumption) (by assumption) |exact below2 (by assumption) (by assumption) |exact below2 (by assumption) (Nat.le_refl _) |exact Below.alloc (by assumption) (Below.size (by assumption)) _ |go_keep)
       ((go_at_call 48;refine(HU.out _).mono ?_;rintro e w1 ⟨rfl,hb1⟩;obtain⟨hcc,hff,hnn⟩:=bcell3 hb1;have hzz:W1.heap.size≤w1.heap.size:=(bt (by assumption) hb1).size;try (have hyy:W1.heap.size<w1.heap.size:=(by have hq:=hb1.size;(try rw[World.size_alloc]at hq);first|exact Nat.lt_of_lt_of_le (by assumption) hq |(simp at hq;omega)))))
      all_goals (go_wp2_with fail;go_meet;refine⟨_,rfl,rfl,rfl,by assumption,?_,?_,?_⟩)
      all_goals simp(maxDischargeDepth:=8) [go_sem, *]
     case rest=>
      obtain⟨gg,rfl,rfl,rfl,hbc,hgg,d0,d1⟩:=hcut
      obtain⟨W4,rfl⟩:∃W4,W4=wc:=⟨_,rfl⟩
      have HQ:=Lib.hid (bt HBW.out hbc)
      have HX1b:=Lib.hid (HX1a.out.below hbc HX1a.out.lt)
      have HX0b:=Lib.hid (HX0a.out.below hbc HX0a.out.lt)
      clear hbc
      cases ok with
      |true=>
       rw[if_pos rfl]at HO
       have r0:=(HX1b.out.cell 0).trans rfl
       have r1:=(HX1b.out.cell 1).trans rfl
       have f0:=HX1b.out.frozen 0
       have f1:=HX1b.out.frozen 1
       go_wp2
       have z:=(HX1b.out.set_ 0 (.int .i64 u1)).set_ 1 (.int .i64 u2)
       have c0:=(z.cell 0).trans rfl
       have c1:=(z.cell 1).trans rfl
       exact bodyPost_ret (v :=.tuple #[.agg #[.int .i64 u1,.int .i64 u2],.int .i64 e0]) (by simp[results,Tryz.results24,go_sem,c0,c1]) rfl (by rw[HO.out];exact⟨rfl,below2 HQ.out (by omega)⟩)
      |false=>
       rw[if_neg (by decide)]at HO
       have b0:=(HX0b.out.cell 0).trans rfl
       have b1:=(HX0b.out.cell 1).trans rfl
       have HT4:=Lib.hid (HTY.out W4 HQ.out)
       obtain⟨ty,hty⟩:∃ty,tpT l r (p:Int)=ty:=⟨_,rfl⟩
       rw[hty]at HT4 HO
       clear hty d0 d1 hgg
       go_wp2_with (go_at_call 47;refine HT4.out.mono ?_)
       rintro e w5 ⟨rfl,hb5⟩
       have y1:=HX1b.out.below hb5 HX1b.out.lt
       have r0:=(y1.cell 0).trans rfl
       have r1:=(y1.cell 1).trans rfl
       have f0:=y1.frozen 0
       have f1:=y1.frozen 1
       have HQ5:=Lib.hid (bt HQ.out hb5)
       go_wp2
       have z:=(y1.set_ 0 (.int .i64 ty)).set_ 1 (.int .i64 0)
       have c0:=(z.cell 0).trans rfl
       have c1:=(z.cell 1).trans rfl
       exact bodyPost_ret (v :=.tuple #[.agg #[.int .i64 ty,.int .i64 0],.int .i64 0]) (by simp[results,Tryz.results24,go_sem,c0,c1]) rfl (by rw[HO.out];exact⟨rfl,below2 HQ5.out (by omega)⟩)
end
end Go.Proofs.YtignojhijmamhaaGreat
