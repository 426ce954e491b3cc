/- PROVED here: parts N37 of the claim. No condition but those in each theorem's own head. -/
import Derived.Test.YtedkgofehbecmaaGreatDoorU34
import Derived.Deep.RegionHeld3
import Derived.Deep.DeepCutAuto
import Derived.Deep.CutBlock
namespace Go.Proofs.YtedkgofehbecmaaGreatDoor
open Go.Lib (hid)
open Go Go.RowKit
open Tr (Bx heap1 bt Nds Ints BPost IPost rgB Ib)
theorem Fl.realloc {a w:World}{B:Nat}{o o':Obj}(h:Below B a (w.alloc o))(hz:B<=w.heap.size):Below B a (w.alloc o'):=
 ⟨h.os,h.tape,h.output,by have:=h.size;simpa using this,λk hk=>by
  have:=h.block k hk
  rw[Below.heap_alloc w o k (Nat.lt_of_lt_of_le hk hz)]at this
  rw[Below.heap_alloc w o' k (Nat.lt_of_lt_of_le hk hz)]
  exact this⟩
structure Sce (w0:World) (A:Option Addr) (n c:Nat) (l:List Tr.Nd) (g rb sb gb cap cR cS N:Nat) (U:Value) (R:Nat->Bool) (sp:Nat->Int) (w:World):Prop where
 b:Below w0.heap.size w0 w
 bx:Bx w g 116 [.slice A n c,.slice (some ⟨rb,0,none⟩) n cR,.slice (some ⟨sb,0,none⟩) n cS,.slice (some ⟨gb,0,none⟩) N cap,U]
 rs:Bb w rb n R
 st:Ib w sb n sp
 ge:w0.heap.size<=gb
 ne:g≠gb/\rb≠gb/\sb≠gb
section
variable {w0 w w':World} {A:Option Addr} {n c:Nat} {l:List Tr.Nd} {g rb sb gb cap cR cS N:Nat} {U:Value} {R:Nat->Bool} {sp:Nat->Int} {X:Nat->Prop}
theorem Sce.fr (h:Sce w0 A n c l g rb sb gb cap cR cS N U R sp w)(k:Fr (λb=>b=gb) w w'):Sce w0 A n c l g rb sb gb cap cR cS N U R sp w':=
 ⟨h.b.trans (k.below (λi e=>by have e:i=gb:=e;rw[e];exact h.ge) h.b.size),Bx.fr h.bx k (λe=>h.ne.1 e),(k.block rb h.rs.lt (λe=>h.ne.2.1 e)).trans h.rs,(k.block sb h.st.lt (λe=>h.ne.2.2 e)).trans h.st,h.ge,h.ne⟩
theorem Sce.below (h:Sce w0 A n c l g rb sb gb cap cR cS N U R sp w)(k:Below w.heap.size w w'):Sce w0 A n c l g rb sb gb cap cR cS N U R sp w':=h.fr (Fr.of k)
theorem GR.of_fr {M:Nat}{G:List Gn}(h:GR w gb M X G)(k:Below w.heap.size w w'):GR w' gb M X G:=h.below k
def StP (gb M:Nat)(X:Nat->Prop)(RR:List Gn × Int)(w:World)(e:Ending)(w':World):Prop:=e = .returned (.int .i64 RR.2)/\Fr (λb=>b=gb) w w'/\GR w' gb M X RR.1
structure FlOk (l:List Tr.Nd) (sp:Nat->Int) (N:Nat):Prop where
 blk:∀p,p<l.length->(Tr.nth l p).kd=6->∀k ∈ (Tr.nth l p).ks,∃i:Nat,k=(i:Int)/\i<p/\stmB (Tr.nth l i).kd=true
 iff_:∀p,p<l.length->(Tr.nth l p).kd=11->∃a:Int,∃b d:Nat,(Tr.nth l p).ks=[a,(b:Int),(d:Int)]/\b<p/\d<p/\(Tr.nth l b).kd=6/\(Tr.nth l d).kd=6
 whl:∀p,p<l.length->(Tr.nth l p).kd=12->∃a:Int,∃b:Nat,(Tr.nth l p).ks=[a,(b:Int)]/\b<p/\(Tr.nth l b).kd=6
 try_:∀p,p<l.length->(Tr.nth l p).kd=16->∃b d:Nat,(Tr.nth l p).ks=[(b:Int),(d:Int)]/\b<p/\d<p/\(Tr.nth l b).kd=6/\(Tr.nth l d).kd=6
 stp:∀p,p<l.length->stmB (Tr.nth l p).kd=true->∃i:Nat,sp p=(i:Int)/\i<N
 few:∀x ∈ l,x.ks.length<=4000
theorem own162:Fl.Own 137:=⟨_,Tryz.func137,by kernel_rfl,by kernel_rfl⟩
def BlC (w0:World)(A:Option Addr)(n c:Nat)(l:List Tr.Nd)(g rb sb gb cap cR cS N:Nat)(U:Value)(R:Nat->Bool)(sp:Nat->Int)(X:Nat->Prop)(f:Nat):Prop:=
 ∀(p:Nat) (w:World) (G:List Gn) (fo ha ex:Int),Sce w0 A n c l g rb sb gb cap cR cS N U R sp w->(∀b,X b->b<w.heap.size)->GR w gb (cap*5) X G->G.length=N->p<=f->p<l.length->(Tr.nth l p).kd=6->Calls Tryz.prog 137 #[.pointer (some ⟨g,0,none⟩),.int .i64 (p:Int),.agg #[.int .i64 fo,.int .i64 ha,.int .i64 ex]] w (StP gb (cap*5) X (blG l R sp f G p fo ha ex) w)
theorem kd_newF (w:World)(X:Nat->Prop)(l:List Int)(hX:∀b,X b->b<w.heap.size):Kd (w.alloc (.cells (l.map (Value.int .i64)).toArray 3)) X (some ⟨w.heap.size,0,none⟩) l:=λ_=>
 ⟨w.heap.size,(l.map (Value.int .i64)).toArray,rfl,World.alloc_heap_new w _,λj hj=>by simp[hj],λh=>Nat.lt_irrefl _ (hX _ h)⟩
set_option maxRecDepth 100000 in
set_option maxHeartbeats 8000000 in
theorem stmt_any (hT:TT w0 A n l)(hF:FlOk l sp N)(f:Nat)(HBL:BlC w0 A n c l g rb sb gb cap cR cS N U R sp X f)(p:Nat)(w:World)(G:List Gn)(fo ha ex:Int)(h:Sce w0 A n c l g rb sb gb cap cR cS N U R sp w)(hG:GR w gb (cap*5) X G)(hGN:G.length=N)(hX:∀b,X b->b<w.heap.size)(hpf:p<=f)(hp:p<l.length)(hst:stmB (Tr.nth l p).kd=true) :
  Calls Tryz.prog 189 #[.pointer (some ⟨g,0,none⟩),.int .i64 (p:Int),.agg #[.int .i64 fo,.int .i64 ha,.int .i64 ex]] w (StP gb (cap*5) X (stG l R sp (f+1) G p fo ha ex) w):=by
 have HL:=hid hT.len
 obtain⟨self,hself,hsN⟩:=hF.stp p hp hst
 have hpn:p<n:=by rw[hT.len];exact hp
 have hpz:(p:Int)<(n:Int):=by omega
 have HB0:=hid (heap1 w (.cells #[.int .i64 fo,.int .i64 ha,.int .i64 ex] 160))
 have HC:=hid (Bx.new w 160 [.int .i64 fo,.int .i64 ha,.int .i64 ex])
 obtain⟨W0,hW0⟩:∃W0,w.alloc (.cells #[.int .i64 fo,.int .i64 ha,.int .i64 ex] 160)=W0:=⟨_,rfl⟩
 rw[hW0]at HB0 HC
 have hgbw:=hG.lt
 have HS:=hid (h.below HB0.out)
 have HG:=hid (hG.below HB0.out)
 have hXw:=hX
 have HX:=hid (show∀b,X b->b<W0.heap.size from λb hb=>Nat.lt_of_lt_of_le (hXw b hb) HB0.out.size)
 obtain⟨bA,off,K,cK,rfl,xt,x0,x1,x2,x3,x4,xI⟩:=node_at hT.nds HS.out.b p hp
 have hnth:Tr.nth l p=l[p]:=Tr.nth_eq hp
 obtain⟨q,hq⟩:∃q,l[p]'hp=q:=⟨_,rfl⟩
 rw[hq]at x0 x1 x2 x3 x4 xI hnth
 have hfew:=hF.few q (by rw[<- hq];exact List.getElem_mem hp)
 obtain⟨kd,nn,pl,tx,ks⟩:=q
 dsimp only at x0 x1 x2 x3 x4 xI hfew
 have HNT:=hid hnth
 obtain⟨mk,hmk⟩:∃mk,ks.length=mk:=⟨_,rfl⟩
 rw[hmk]at x4
 have HMK:=hid hmk
 have HXN:=hid (And.intro xt (And.intro x0 (And.intro x1 (And.intro x2 (And.intro x3 x4)))))
 have HXI:=hid xI
 have HSF:=hid (show Fr (λb=>b=gb) w W0 from Fr.of HB0.out)
 obtain⟨BF,hBF⟩:∃BF:List Gn->Int->Int->Int->List Gn × Int,(λG k fo ha=>bkG (λG p fo=>stG l R sp f G p fo ha ex) (Tr.nth l k.toNat).ks.reverse G fo)=BF:=⟨_,rfl⟩
 have HBF:=hid hBF
 have HFR:=hid (show stG l R sp (f+1) G p fo ha ex=(wayG (swG BF ⟨kd,nn,pl,tx,ks⟩ (self:Int) G fo ha ex).1 self (swG BF ⟨kd,nn,pl,tx,ks⟩ (self:Int) G fo ha ex).2.2 (if R p then some ha else none),(swG BF ⟨kd,nn,pl,tx,ks⟩ (self:Int) G fo ha ex).2.1)from by rw[<- hBF,stG];rw[HNT.out,hself,Int.toNat_natCast])
 have HF:=hid hF
 have HGN:=hid hGN
 have HSELF:=hid (And.intro hself hsN)
 have hst':=hst
 rw[hnth]at hst'
 have hkk:7<=kd/\kd<=17:=by unfold stmB at hst';simpa using hst'
 have HKK:=hid hkk
 have HPF:=hid (And.intro hpf hp)
 have HBLH:=hid HBL
 clear HBL hBF h hG hT hF hself hsN hst hst' hfew hnth hmk x0 x1 x2 x3 x4 xI hX hXw hGN hkk hpf hq xt
 go_enter Tryz.func189,Tryz.ntmps189
 go_upto_region 1 with(fail)
 go_cut [7,8] (λx y wx=>∃gg:Nat,x = .pointer (some ⟨gg,0,none⟩)/\y = .int .i64 (self:Int)/\Below W0.heap.size W0 wx/\W0.heap.size<=gg/\gg<wx.heap.size/\wx.cell? ⟨gg,0,none⟩=some (.int .i64 kd)/\wx.cell? ⟨gg,4,none⟩=some (.slice K mk cK))
 case first=>
  have l0:∀w',Below W0.heap.size W0 w'->w'.cell? ⟨g,0,none⟩=some (.slice (some ⟨bA,off,none⟩) n c):=λw' q=>((HS.out.below q).bx.cell 0).trans rfl
  have l1:∀w',Below W0.heap.size W0 w'->w'.cell? ⟨g,2,none⟩=some (.slice (some ⟨sb,0,none⟩) n cS):=λw' q=>((HS.out.below q).bx.cell 2).trans rfl
  have l2:∀w',Below W0.heap.size W0 w'->w'.cell? ⟨sb,p,none⟩=some (.int .i64 (self:Int)):=λw' q=>by rw[<- HSELF.out.1];exact(HS.out.below q).st.cell hpn
  have l3:∀w',Below W0.heap.size W0 w'->w'.cell? ⟨bA,off+p*5,none⟩=some (.int .i64 kd):=λw' q=>(q.cell (p:=⟨bA,off+p*5,none⟩) HXN.out.1).trans HXN.out.2.1
  have l4:∀w',Below W0.heap.size W0 w'->w'.cell? ⟨bA,off+p*5+1,none⟩=some (.int .i64 nn):=λw' q=>(q.cell (p:=⟨bA,off+p*5+1,none⟩) HXN.out.1).trans HXN.out.2.2.1
  have l5:∀w',Below W0.heap.size W0 w'->w'.cell? ⟨bA,off+p*5+2,none⟩=some (.int .i64 pl):=λw' q=>(q.cell (p:=⟨bA,off+p*5+2,none⟩) HXN.out.1).trans HXN.out.2.2.2.1
  have l6:∀w',Below W0.heap.size W0 w'->w'.cell? ⟨bA,off+p*5+3,none⟩=some (.string tx):=λw' q=>(q.cell (p:=⟨bA,off+p*5+3,none⟩) HXN.out.1).trans HXN.out.2.2.2.2.1
  have l7:∀w',Below W0.heap.size W0 w'->w'.cell? ⟨bA,off+p*5+4,none⟩=some (.slice K mk cK):=λw' q=>(q.cell (p:=⟨bA,off+p*5+4,none⟩) HXN.out.1).trans HXN.out.2.2.2.2.2
  go_region_held3 (λw'=>Below W0.heap.size W0 w') (first|exact bdrew (heap1 _ _) |exact bdrew (Fl.realloc (by assumption) (Nat.le_refl _)) |exact(Below.refl _ _).drew |exact bt (by assumption) (by assumption) |exact Fl.realloc (by assumption) (by assumption) |exact Below.alloc (by assumption) (Below.size (by assumption)) _ |go_keep)
   (fail)
  all_goals (go_wp2_with fail;go_meet;refine⟨_,rfl,rfl,by assumption,?_,?_,?_,?_⟩)
  all_goals simp(maxDischargeDepth:=8) [go_sem, *]
 case rest=>
  obtain⟨gg,rfl,rfl,hb1,hgz,hgg,d0,d4⟩:=hcut
  obtain⟨W1,rfl⟩:∃W1,W1=wc:=⟨_,rfl⟩
  have HB1:=hid hb1
  have HGN0:=hid (show gb<gg from Nat.lt_of_lt_of_le HG.out.lt hgz)
  have HSG:=hid (show gb<w.heap.size from hgbw)
  have HD:=hid (And.intro hgg (And.intro d0 d4))
  have f0:∀w',Below W1.heap.size W1 w'->w'.cell? ⟨w.heap.size,0,none⟩=some (.int .i64 fo):=λw' q=>((HC.out.below (bt HB1.out q) HC.out.lt).cell 0).trans rfl
  clear hb1 hgz hgg d0 d4
  go_upto_region 2 with(fail)
  go_cut [9,10] (λx y wx=>x = .int .i64 (self:Int)/\∃kb:Nat,y = .slice (some ⟨kb,0,none⟩) 1 1/\Below W1.heap.size W1 wx/\Kd wx X (some ⟨kb,0,none⟩) [fo])
  case first=>
   go_region_held3 (λw'=>Below W1.heap.size W1 w') (first|exact bdrew (heap1 _ _) |exact bdrew (Fl.realloc (by assumption) (Nat.le_refl _)) |exact(Below.refl _ _).drew |exact bt (by assumption) (by assumption) |exact Fl.realloc (by assumption) (by assumption) |exact Below.alloc (by assumption) (Below.size (by assumption)) _ |go_keep)
    (fail)
   all_goals (go_wp2_with fail;go_meet;refine⟨rfl,_,rfl,?_,?_⟩)
   ·exact bdrew (heap1 _ _)
   ·exact kd_newF W1 X [fo] (λb hb=>Nat.lt_of_lt_of_le (HX.out b hb) HB1.out.size)
  case rest=>
   obtain⟨rfl,kb,rfl,hb2,hkd⟩:=hcut
   obtain⟨W2,rfl⟩:∃W2,W2=wc:=⟨_,rfl⟩
   have HB2:=hid (bt HB1.out hb2)
   have HK2:=hid hkd
   have d0:W2.cell? ⟨gg,0,none⟩=some (.int .i64 kd):=(hb2.cell (p:=⟨gg,0,none⟩) HD.out.1).trans HD.out.2.1
   have d4:W2.cell? ⟨gg,4,none⟩=some (.slice K mk cK):=(hb2.cell (p:=⟨gg,4,none⟩) HD.out.1).trans HD.out.2.2
   have HG2:=hid (show gg<W2.heap.size from Nat.lt_of_lt_of_le HD.out.1 hb2.size)
   clear f0 hb2 hkd HB1
   go_upto_block 0 with(fail)
   obtain⟨S,hS⟩:∃S,swG BF ⟨kd,nn,pl,tx,ks⟩ (self:Int) G fo ha ex=S:=⟨_,rfl⟩
   rw[hS]at HFR
   have HSW:=hid hS
   clear hS
   have HC2:=hid (HC.out.below HB2.out HC.out.lt)
   have HG2R:=hid (HG.out.below HB2.out)
   have HS2:=hid (HS.out.below HB2.out)
   have HX2:=hid (show∀b,X b->b<W2.heap.size from λb hb=>Nat.lt_of_lt_of_le (HX.out b hb) HB2.out.size)
   have HNE:=hid (show gg≠gb/\w.heap.size≠gb from⟨λe=>by have:=HGN0.out;omega,λe=>by have:=HSG.out;omega⟩)
   go_cut [9,10] (λx y wx=>x = .int .i64 S.2.1/\∃(K':Option Addr) (cK':Nat),y = .slice K' S.2.2.length cK'/\Kd wx X K' S.2.2/\Fr (λb=>b=gb) W2 wx/\GR wx gb (cap*5) X S.1)
   case first=>
    by_cases h11:kd=11
    ·subst h11
     obtain⟨ka,kb1,kd1,hks,hlt1,hlt2,hk1,hk2⟩:=HF.out.iff_ p HPF.out.2 (by rw[HNT.out])
     rw[HNT.out]at hks
     dsimp only at hks
     subst hks
     obtain rfl:3=mk:=HMK.out
     obtain⟨kk,off2,rfl,hkl,hkc⟩:=HXI.out (by simp)
     obtain⟨⟨G1,y1⟩,hy1⟩:∃RR,BF G (kb1:Int) fo ha=RR:=⟨_,rfl⟩
     obtain⟨⟨G2,y2⟩,hy2⟩:∃RR,BF G1 (kd1:Int) fo ha=RR:=⟨_,rfl⟩
     have hSE:S=(G2,(self:Int),[y1,y2]):=by
      rw[<- HSW.out];unfold swG
      simp only[if_true,List.getD_cons_succ,List.getD_cons_zero,hy1,hy2]
     subst hSE
     have HGL:=hid (show G1.length=N from by
      have:(BF G (kb1:Int) fo ha).1.length=G.length:=by rw[<- HBF.out];exact blG_len l R sp f G kb1 fo ha ex
      rw[hy1]at this;exact this.trans HGN.out)
     have HC1:=hid (λ(W:World) (q:Fr (λb=>b=gb) W2 W)=>HBLH.out kb1 W G fo ha ex (HS2.out.fr q) (λb hb=>Nat.lt_of_lt_of_le (HX2.out b hb) q.size))
     have HC3:=hid (λ(W:World) (q:Fr (λb=>b=gb) W2 W)=>HBLH.out kd1 W G1 fo ha ex (HS2.out.fr q) (λb hb=>Nat.lt_of_lt_of_le (HX2.out b hb) q.size))
     have e1:blG l R sp f G kb1 fo ha ex=(G1,y1):=by rw[<- hy1,<- HBF.out];rfl
     have e2:blG l R sp f G1 kd1 fo ha ex=(G2,y2):=by rw[<- hy2,<- HBF.out];rfl
     rw[e1]at HC1
     rw[e2]at HC3
     have HK4:=hid (λ(W:World) (q:Fr (λb=>b=gb) W2 W)=>show W.cell? ⟨gg,4,none⟩=some (.slice (some ⟨kk,off2,none⟩) 3 cK) from(Tr.cell_same (q.block gg HG2.out HNE.out.1) _).trans d4)
     have HB4:=hid (λ(W:World) (q:Fr (λb=>b=gb) W2 W)=>Bx.fr HC2.out q HNE.out.2)
     have HQ4:=hid (λ(W:World) (q:Fr (λb=>b=gb) W2 W) (j:Nat) (hj:j<3)=>(Tr.cell_same (q.block kk (Nat.lt_of_lt_of_le hkl HS2.out.b.size) (λe=>by have:=HS2.out.ge;have e:kk=gb:=e;omega)) (off2+j)).trans (((HS2.out.b).cell (p:=⟨kk,off2+j,none⟩) hkl).trans (hkc j hj)))
     go_upto_region 5 with(fail)
     clear d0 d4 hy1 hy2 e1 e2 hkc
     refine wp_region_held (S:=(λW'=>Fr (λb=>b=gb) W2 W')) (by kernel_rfl) ?_
     have hS:(λW'=>Fr (λb=>b=gb) W2 W') ({ W2 with drawn:=W2.drawn+1 }:World):=Fr.of (Below.refl _ _).drew
     have hG0:GR ({ W2 with drawn:=W2.drawn+1 }:World) gb (cap*5) X G:=HG2R.out.of_fr (Below.refl _ _).drew
     generalize ({ W2 with drawn:=W2.drawn+1 }:World)=V0 at *
     refine Fl.hpu 0 (o:=({ dst:=some 33,op:=Op.move (Operand.tmp 0),type:=157,pos := "build.go:68",after := #[],guard:=none }:Oper)) (.pointer (some ⟨g,0,none⟩)) (by kernel_rfl) rfl rfl (λ_ _ _ h=>h) rfl (by intro w' hSw;have e4:=HK4.out _ hSw;have hbx:=HB4.out _ hSw;have b0:=(hbx.cell 0).trans rfl;have b1:=(hbx.cell 1).trans rfl;have b2:=(hbx.cell 2).trans rfl;have q0:=HQ4.out _ hSw 0 (by omega);have q1:=HQ4.out _ hSw 1 (by omega);have q2:=HQ4.out _ hSw 2 (by omega);simp only[List.getElem_cons_succ,List.getElem_cons_zero,Nat.add_zero]at q0 q1 q2;clear hbx;clear hSw;go_simp) hS ?_
     try simp only[Fl.ap]
     refine Fl.hpu 1 (o:=({ dst:=some 34,op:=Op.fieldAddr 50 (Operand.tmp 7) 4,type:=0,pos := "build.go:68",after := #[],guard:=none }:Oper)) (.pointer (some ⟨gg,4,none⟩)) (by kernel_rfl) rfl rfl (λ_ _ _ h=>h) rfl (by intro w' hSw;have e4:=HK4.out _ hSw;have hbx:=HB4.out _ hSw;have b0:=(hbx.cell 0).trans rfl;have b1:=(hbx.cell 1).trans rfl;have b2:=(hbx.cell 2).trans rfl;have q0:=HQ4.out _ hSw 0 (by omega);have q1:=HQ4.out _ hSw 1 (by omega);have q2:=HQ4.out _ hSw 2 (by omega);simp only[List.getElem_cons_succ,List.getElem_cons_zero,Nat.add_zero]at q0 q1 q2;clear hbx;clear hSw;go_simp) hS ?_
     try simp only[Fl.ap]
     refine Fl.hpu 2 (o:=({ dst:=some 35,op:=Op.load 28 (Operand.tmp 34),type:=28,pos := "build.go:68",after := #[{ on:=1,ground:=Ground.data }],guard:=none }:Oper)) ((.slice (some ⟨kk,off2,none⟩) 3 cK)) (by kernel_rfl) rfl rfl (λ_ _ _ h=>h) rfl (by intro w' hSw;have e4:=HK4.out _ hSw;have hbx:=HB4.out _ hSw;have b0:=(hbx.cell 0).trans rfl;have b1:=(hbx.cell 1).trans rfl;have b2:=(hbx.cell 2).trans rfl;have q0:=HQ4.out _ hSw 0 (by omega);have q1:=HQ4.out _ hSw 1 (by omega);have q2:=HQ4.out _ hSw 2 (by omega);simp only[List.getElem_cons_succ,List.getElem_cons_zero,Nat.add_zero]at q0 q1 q2;clear hbx;clear hSw;go_simp) hS ?_
     try simp only[Fl.ap]
     refine Fl.hpu 3 (o:=({ dst:=some 36,op:=Op.indexAddr 28 (Operand.tmp 35) (Operand.const (Value.int IntKind.i64 1)),type:=0,pos := "build.go:68",after := #[{ on:=2,ground:=Ground.data }],guard:=none }:Oper)) (.pointer (some ⟨kk,off2+1,none⟩)) (by kernel_rfl) rfl rfl (λ_ _ _ h=>h) rfl (by intro w' hSw;have e4:=HK4.out _ hSw;have hbx:=HB4.out _ hSw;have b0:=(hbx.cell 0).trans rfl;have b1:=(hbx.cell 1).trans rfl;have b2:=(hbx.cell 2).trans rfl;have q0:=HQ4.out _ hSw 0 (by omega);have q1:=HQ4.out _ hSw 1 (by omega);have q2:=HQ4.out _ hSw 2 (by omega);simp only[List.getElem_cons_succ,List.getElem_cons_zero,Nat.add_zero]at q0 q1 q2;clear hbx;clear hSw;go_simp) hS ?_
     try simp only[Fl.ap]
     refine Fl.hpu 4 (o:=({ dst:=some 37,op:=Op.load 3 (Operand.tmp 36),type:=3,pos := "build.go:68",after := #[{ on:=3,ground:=Ground.data }],guard:=none }:Oper)) (.int .i64 (kb1:Int)) (by kernel_rfl) rfl rfl (λ_ _ _ h=>h) rfl (by intro w' hSw;have e4:=HK4.out _ hSw;have hbx:=HB4.out _ hSw;have b0:=(hbx.cell 0).trans rfl;have b1:=(hbx.cell 1).trans rfl;have b2:=(hbx.cell 2).trans rfl;have q0:=HQ4.out _ hSw 0 (by omega);have q1:=HQ4.out _ hSw 1 (by omega);have q2:=HQ4.out _ hSw 2 (by omega);simp only[List.getElem_cons_succ,List.getElem_cons_zero,Nat.add_zero]at q0 q1 q2;clear hbx;clear hSw;go_simp) hS ?_
     try simp only[Fl.ap]
     refine Fl.hpu 5 (o:=({ dst:=some 38,op:=Op.load 160 (Operand.tmp 5),type:=160,pos := "build.go:68",after := #[],guard:=none }:Oper)) (.agg #[.int .i64 fo,.int .i64 ha,.int .i64 ex]) (by kernel_rfl) rfl rfl (λ_ _ _ h=>h) rfl (by intro w' hSw;have e4:=HK4.out _ hSw;have hbx:=HB4.out _ hSw;have b0:=(hbx.cell 0).trans rfl;have b1:=(hbx.cell 1).trans rfl;have b2:=(hbx.cell 2).trans rfl;have q0:=HQ4.out _ hSw 0 (by omega);have q1:=HQ4.out _ hSw 1 (by omega);have q2:=HQ4.out _ hSw 2 (by omega);simp only[List.getElem_cons_succ,List.getElem_cons_zero,Nat.add_zero]at q0 q1 q2;clear hbx;clear hSw;go_simp) hS ?_
     try simp only[Fl.ap]
     refine Fl.hpu 7 (o:=({ dst:=some 40,op:=Op.move (Operand.tmp 0),type:=157,pos := "build.go:68",after := #[],guard:=none }:Oper)) (.pointer (some ⟨g,0,none⟩)) (by kernel_rfl) rfl rfl (λ_ _ _ h=>h) rfl (by intro w' hSw;have e4:=HK4.out _ hSw;have hbx:=HB4.out _ hSw;have b0:=(hbx.cell 0).trans rfl;have b1:=(hbx.cell 1).trans rfl;have b2:=(hbx.cell 2).trans rfl;have q0:=HQ4.out _ hSw 0 (by omega);have q1:=HQ4.out _ hSw 1 (by omega);have q2:=HQ4.out _ hSw 2 (by omega);simp only[List.getElem_cons_succ,List.getElem_cons_zero,Nat.add_zero]at q0 q1 q2;clear hbx;clear hSw;go_simp) hS ?_
     try simp only[Fl.ap]
     refine Fl.hpu 8 (o:=({ dst:=some 41,op:=Op.fieldAddr 50 (Operand.tmp 7) 4,type:=0,pos := "build.go:68",after := #[],guard:=none }:Oper)) (.pointer (some ⟨gg,4,none⟩)) (by kernel_rfl) rfl rfl (λ_ _ _ h=>h) rfl (by intro w' hSw;have e4:=HK4.out _ hSw;have hbx:=HB4.out _ hSw;have b0:=(hbx.cell 0).trans rfl;have b1:=(hbx.cell 1).trans rfl;have b2:=(hbx.cell 2).trans rfl;have q0:=HQ4.out _ hSw 0 (by omega);have q1:=HQ4.out _ hSw 1 (by omega);have q2:=HQ4.out _ hSw 2 (by omega);simp only[List.getElem_cons_succ,List.getElem_cons_zero,Nat.add_zero]at q0 q1 q2;clear hbx;clear hSw;go_simp) hS ?_
     try simp only[Fl.ap]
     refine Fl.hpu 9 (o:=({ dst:=some 42,op:=Op.load 28 (Operand.tmp 41),type:=28,pos := "build.go:68",after := #[{ on:=8,ground:=Ground.data }],guard:=none }:Oper)) ((.slice (some ⟨kk,off2,none⟩) 3 cK)) (by kernel_rfl) rfl rfl (λ_ _ _ h=>h) rfl (by intro w' hSw;have e4:=HK4.out _ hSw;have hbx:=HB4.out _ hSw;have b0:=(hbx.cell 0).trans rfl;have b1:=(hbx.cell 1).trans rfl;have b2:=(hbx.cell 2).trans rfl;have q0:=HQ4.out _ hSw 0 (by omega);have q1:=HQ4.out _ hSw 1 (by omega);have q2:=HQ4.out _ hSw 2 (by omega);simp only[List.getElem_cons_succ,List.getElem_cons_zero,Nat.add_zero]at q0 q1 q2;clear hbx;clear hSw;go_simp) hS ?_
     try simp only[Fl.ap]
     refine Fl.hpu 10 (o:=({ dst:=some 43,op:=Op.indexAddr 28 (Operand.tmp 42) (Operand.const (Value.int IntKind.i64 2)),type:=0,pos := "build.go:68",after := #[{ on:=9,ground:=Ground.data }],guard:=none }:Oper)) (.pointer (some ⟨kk,off2+2,none⟩)) (by kernel_rfl) rfl rfl (λ_ _ _ h=>h) rfl (by intro w' hSw;have e4:=HK4.out _ hSw;have hbx:=HB4.out _ hSw;have b0:=(hbx.cell 0).trans rfl;have b1:=(hbx.cell 1).trans rfl;have b2:=(hbx.cell 2).trans rfl;have q0:=HQ4.out _ hSw 0 (by omega);have q1:=HQ4.out _ hSw 1 (by omega);have q2:=HQ4.out _ hSw 2 (by omega);simp only[List.getElem_cons_succ,List.getElem_cons_zero,Nat.add_zero]at q0 q1 q2;clear hbx;clear hSw;go_simp) hS ?_
     try simp only[Fl.ap]
     refine Fl.hpu 11 (o:=({ dst:=some 44,op:=Op.load 3 (Operand.tmp 43),type:=3,pos := "build.go:68",after := #[{ on:=10,ground:=Ground.data }],guard:=none }:Oper)) (.int .i64 (kd1:Int)) (by kernel_rfl) rfl rfl (λ_ _ _ h=>h) rfl (by intro w' hSw;have e4:=HK4.out _ hSw;have hbx:=HB4.out _ hSw;have b0:=(hbx.cell 0).trans rfl;have b1:=(hbx.cell 1).trans rfl;have b2:=(hbx.cell 2).trans rfl;have q0:=HQ4.out _ hSw 0 (by omega);have q1:=HQ4.out _ hSw 1 (by omega);have q2:=HQ4.out _ hSw 2 (by omega);simp only[List.getElem_cons_succ,List.getElem_cons_zero,Nat.add_zero]at q0 q1 q2;clear hbx;clear hSw;go_simp) hS ?_
     try simp only[Fl.ap]
     refine Fl.hpu 12 (o:=({ dst:=some 45,op:=Op.load 160 (Operand.tmp 5),type:=160,pos := "build.go:68",after := #[],guard:=none }:Oper)) (.agg #[.int .i64 fo,.int .i64 ha,.int .i64 ex]) (by kernel_rfl) rfl rfl (λ_ _ _ h=>h) rfl (by intro w' hSw;have e4:=HK4.out _ hSw;have hbx:=HB4.out _ hSw;have b0:=(hbx.cell 0).trans rfl;have b1:=(hbx.cell 1).trans rfl;have b2:=(hbx.cell 2).trans rfl;have q0:=HQ4.out _ hSw 0 (by omega);have q1:=HQ4.out _ hSw 1 (by omega);have q2:=HQ4.out _ hSw 2 (by omega);simp only[List.getElem_cons_succ,List.getElem_cons_zero,Nat.add_zero]at q0 q1 q2;clear hbx;clear hSw;go_simp) hS ?_
     try simp only[Fl.ap]
     refine Fl.h_call 6 ({ dst:=some 39,op:=Op.call { callee:=Callee.value (Operand.func 137),args := #[Operand.tmp 33,Operand.tmp 37,Operand.tmp 38],argTypes := #[157,3,160] },type:=3,pos := "build.go:68",after := #[{ on:=0,ground:=Ground.data },{ on:=4,ground:=Ground.data },{ on:=5,ground:=Ground.data }],guard:=none }:Oper) (λv w1=>v = .int .i64 y1/\Fr (λb=>b=gb) V0 w1/\GR w1 gb (cap*5) X G1) own162 rfl rfl rfl (by kernel_rfl) rfl (args := #[.pointer (some ⟨g,0,none⟩),.int .i64 (kb1:Int),.agg #[.int .i64 fo,.int .i64 ha,.int .i64 ex]]) rfl (((HC1.out _ hS hG0 HGN.out (by have:=HPF.out;omega) (by have:=HPF.out;omega) hk1).mono λe w1 q=>⟨_,q.1,rfl,q.2⟩)) ?_
     rintro v V1 ⟨rfl,hb5,hG1⟩
     have hS:=hS.trans hb5
     refine⟨hS,?_⟩
     try simp only[Fl.ap]
     refine Fl.h_call 13 ({ dst:=some 46,op:=Op.call { callee:=Callee.value (Operand.func 137),args := #[Operand.tmp 40,Operand.tmp 44,Operand.tmp 45],argTypes := #[157,3,160] },type:=3,pos := "build.go:68",after := #[{ on:=7,ground:=Ground.data },{ on:=11,ground:=Ground.data },{ on:=12,ground:=Ground.data },{ on:=6,ground:=Ground.chain }],guard:=none }:Oper) (λv w1=>v = .int .i64 y2/\Fr (λb=>b=gb) V1 w1/\GR w1 gb (cap*5) X G2) own162 rfl rfl rfl (by kernel_rfl) rfl (args := #[.pointer (some ⟨g,0,none⟩),.int .i64 (kd1:Int),.agg #[.int .i64 fo,.int .i64 ha,.int .i64 ex]]) rfl (((HC3.out _ hS hG1 HGL.out (by have:=HPF.out;omega) (by have:=HPF.out;omega) hk2).mono λe w1 q=>⟨_,q.1,rfl,q.2⟩)) ?_
     rintro v V2 ⟨rfl,hb6,hG2⟩
     have hS0:=hS
     have hS:=hS.trans hb6
     refine⟨hS,?_⟩
     try simp only[Fl.ap]
     refine Fl.h_oneK 14 ({ dst:=some 47,op:=Op.buildSlice 28 2 #[(0,Operand.tmp 39),(1,Operand.tmp 46)],type:=28,pos := "build.go:68",after := #[{ on:=6,ground:=Ground.data },{ on:=13,ground:=Ground.data }],guard:=none }:Oper) rfl (by kernel_rfl) rfl (λK2 hK2 =>?_)
     go_simp
     refine hK2.out _ _ (hS.trans (Fr.of (heap1 _ _))) (λhS2 =>?_)
     clear hK2 K2
     replace hS:=hS2
     try simp only[Fl.ap]
     refine Fl.hpu 15 (o:=({ dst:=some 10,op:=Op.assign (Operand.tmp 47),type:=28,pos := "build.go:68",after := #[{ on:=14,ground:=Ground.data },{ on:=13,ground:=Ground.chain },{ on:=0,ground:=Ground.phase },{ on:=1,ground:=Ground.phase },{ on:=2,ground:=Ground.phase },{ on:=3,ground:=Ground.phase },{ on:=4,ground:=Ground.phase },{ on:=5,ground:=Ground.phase },{ on:=6,ground:=Ground.phase },{ on:=7,ground:=Ground.phase },{ on:=8,ground:=Ground.phase },{ on:=9,ground:=Ground.phase },{ on:=10,ground:=Ground.phase },{ on:=11,ground:=Ground.phase },{ on:=12,ground:=Ground.phase },{ on:=13,ground:=Ground.phase },{ on:=14,ground:=Ground.phase }],guard:=none }:Oper)) (.slice (some ⟨V2.heap.size,0,none⟩) 2 2) (by kernel_rfl) rfl rfl (λ_ _ _ h=>h) rfl (by intro w' hSw;have e4:=HK4.out _ hSw;have hbx:=HB4.out _ hSw;have b0:=(hbx.cell 0).trans rfl;have b1:=(hbx.cell 1).trans rfl;have b2:=(hbx.cell 2).trans rfl;have q0:=HQ4.out _ hSw 0 (by omega);have q1:=HQ4.out _ hSw 1 (by omega);have q2:=HQ4.out _ hSw 2 (by omega);simp only[List.getElem_cons_succ,List.getElem_cons_zero,Nat.add_zero]at q0 q1 q2;clear hbx;clear hSw;go_simp) hS ?_
     try simp only[Fl.ap]
     refine wpAnyH_done (by kernel_rfl) ?_ _
     clear hS
     go_wp2_with fail
     go_meet
     exact⟨rfl,_,_,rfl,kd_newF V2 X [y1,y2] (λb hb=>Nat.lt_of_lt_of_le (HX2.out b hb) (hS0.trans hb6).size),hS2,hG2.of_fr (heap1 _ _)⟩
    ·by_cases h12:kd=12
     ·subst h12
      obtain⟨ka,kb1,hks,hlt1,hk1⟩:=HF.out.whl p HPF.out.2 (by rw[HNT.out])
      rw[HNT.out]at hks
      dsimp only at hks
      subst hks
      obtain rfl:2=mk:=HMK.out
      obtain⟨kk,off2,rfl,hkl,hkc⟩:=HXI.out (by simp)
      obtain⟨⟨G1,y1⟩,hy1⟩:∃RR,BF G (kb1:Int) (self:Int) ha=RR:=⟨_,rfl⟩
      have hSE:S=(G1,(self:Int),[y1,fo]):=by
       rw[<- HSW.out];unfold swG
       simp only[if_true,List.getD_cons_succ,List.getD_cons_zero,hy1,(by decide:¬(12:Int)=11),if_false]
      subst hSE
      have HQC1:=hid (λ(W:World) (q:Fr (λb=>b=gb) W2 W)=>HBLH.out kb1 W G (self:Int) ha ex (HS2.out.fr q) (λb hb=>Nat.lt_of_lt_of_le (HX2.out b hb) q.size))
      have e1:blG l R sp f G kb1 (self:Int) ha ex=(G1,y1):=by rw[<- hy1,<- HBF.out];rfl
      rw[e1]at HQC1
      have HK4:=hid (λ(W:World) (q:Fr (λb=>b=gb) W2 W)=>show W.cell? ⟨gg,4,none⟩=some (.slice (some ⟨kk,off2,none⟩) 2 cK) from(Tr.cell_same (q.block gg HG2.out HNE.out.1) _).trans d4)
      have HB4:=hid (λ(W:World) (q:Fr (λb=>b=gb) W2 W)=>Bx.fr HC2.out q HNE.out.2)
      have HQ4:=hid (λ(W:World) (q:Fr (λb=>b=gb) W2 W) (j:Nat) (hj:j<2)=>(Tr.cell_same (q.block kk (Nat.lt_of_lt_of_le hkl HS2.out.b.size) (λe=>by have:=HS2.out.ge;have e:kk=gb:=e;omega)) (off2+j)).trans (((HS2.out.b).cell (p:=⟨kk,off2+j,none⟩) hkl).trans (hkc j hj)))
      go_upto_region 7 with(fail)
      clear d0 d4 hy1 e1 hkc
      refine wp_region_held (S:=(λW'=>Fr (λb=>b=gb) W2 W')) (by kernel_rfl) ?_
      have hS:(λW'=>Fr (λb=>b=gb) W2 W') ({ W2 with drawn:=W2.drawn+1 }:World):=Fr.of (Below.refl _ _).drew
      have hG0:GR ({ W2 with drawn:=W2.drawn+1 }:World) gb (cap*5) X G:=HG2R.out.of_fr (Below.refl _ _).drew
      generalize ({ W2 with drawn:=W2.drawn+1 }:World)=V0 at *
      refine Fl.hpu 0 (o:=({ dst:=some 50,op:=Op.move (Operand.tmp 0),type:=157,pos := "build.go:70",after := #[],guard:=none }:Oper)) (.pointer (some ⟨g,0,none⟩)) (by kernel_rfl) rfl rfl (λ_ _ _ h=>h) rfl (by intro w' hSw;have e4:=HK4.out _ hSw;have hbx:=HB4.out _ hSw;have b0:=(hbx.cell 0).trans rfl;have b1:=(hbx.cell 1).trans rfl;have b2:=(hbx.cell 2).trans rfl;have q0:=HQ4.out _ hSw 0 (by omega);have q1:=HQ4.out _ hSw 1 (by omega);simp only[List.getElem_cons_succ,List.getElem_cons_zero,Nat.add_zero]at q0 q1;clear hbx;clear hSw;go_simp) hS ?_
      try simp only[Fl.ap]
      refine Fl.hpu 1 (o:=({ dst:=some 51,op:=Op.fieldAddr 50 (Operand.tmp 7) 4,type:=0,pos := "build.go:70",after := #[],guard:=none }:Oper)) (.pointer (some ⟨gg,4,none⟩)) (by kernel_rfl) rfl rfl (λ_ _ _ h=>h) rfl (by intro w' hSw;have e4:=HK4.out _ hSw;have hbx:=HB4.out _ hSw;have b0:=(hbx.cell 0).trans rfl;have b1:=(hbx.cell 1).trans rfl;have b2:=(hbx.cell 2).trans rfl;have q0:=HQ4.out _ hSw 0 (by omega);have q1:=HQ4.out _ hSw 1 (by omega);simp only[List.getElem_cons_succ,List.getElem_cons_zero,Nat.add_zero]at q0 q1;clear hbx;clear hSw;go_simp) hS ?_
      try simp only[Fl.ap]
      refine Fl.hpu 2 (o:=({ dst:=some 52,op:=Op.load 28 (Operand.tmp 51),type:=28,pos := "build.go:70",after := #[{ on:=1,ground:=Ground.data }],guard:=none }:Oper)) ((.slice (some ⟨kk,off2,none⟩) 2 cK)) (by kernel_rfl) rfl rfl (λ_ _ _ h=>h) rfl (by intro w' hSw;have e4:=HK4.out _ hSw;have hbx:=HB4.out _ hSw;have b0:=(hbx.cell 0).trans rfl;have b1:=(hbx.cell 1).trans rfl;have b2:=(hbx.cell 2).trans rfl;have q0:=HQ4.out _ hSw 0 (by omega);have q1:=HQ4.out _ hSw 1 (by omega);simp only[List.getElem_cons_succ,List.getElem_cons_zero,Nat.add_zero]at q0 q1;clear hbx;clear hSw;go_simp) hS ?_
      try simp only[Fl.ap]
      refine Fl.hpu 3 (o:=({ dst:=some 53,op:=Op.indexAddr 28 (Operand.tmp 52) (Operand.const (Value.int IntKind.i64 1)),type:=0,pos := "build.go:70",after := #[{ on:=2,ground:=Ground.data }],guard:=none }:Oper)) (.pointer (some ⟨kk,off2+1,none⟩)) (by kernel_rfl) rfl rfl (λ_ _ _ h=>h) rfl (by intro w' hSw;have e4:=HK4.out _ hSw;have hbx:=HB4.out _ hSw;have b0:=(hbx.cell 0).trans rfl;have b1:=(hbx.cell 1).trans rfl;have b2:=(hbx.cell 2).trans rfl;have q0:=HQ4.out _ hSw 0 (by omega);have q1:=HQ4.out _ hSw 1 (by omega);simp only[List.getElem_cons_succ,List.getElem_cons_zero,Nat.add_zero]at q0 q1;clear hbx;clear hSw;go_simp) hS ?_
      try simp only[Fl.ap]
      refine Fl.hpu 4 (o:=({ dst:=some 54,op:=Op.load 3 (Operand.tmp 53),type:=3,pos := "build.go:70",after := #[{ on:=3,ground:=Ground.data }],guard:=none }:Oper)) (.int .i64 (kb1:Int)) (by kernel_rfl) rfl rfl (λ_ _ _ h=>h) rfl (by intro w' hSw;have e4:=HK4.out _ hSw;have hbx:=HB4.out _ hSw;have b0:=(hbx.cell 0).trans rfl;have b1:=(hbx.cell 1).trans rfl;have b2:=(hbx.cell 2).trans rfl;have q0:=HQ4.out _ hSw 0 (by omega);have q1:=HQ4.out _ hSw 1 (by omega);simp only[List.getElem_cons_succ,List.getElem_cons_zero,Nat.add_zero]at q0 q1;clear hbx;clear hSw;go_simp) hS ?_
      try simp only[Fl.ap]
      refine Fl.hpu 5 (o:=({ dst:=some 55,op:=Op.move (Operand.tmp 8),type:=3,pos := "build.go:70",after := #[],guard:=none }:Oper)) (.int .i64 (self:Int)) (by kernel_rfl) rfl rfl (λ_ _ _ h=>h) rfl (by intro w' hSw;have e4:=HK4.out _ hSw;have hbx:=HB4.out _ hSw;have b0:=(hbx.cell 0).trans rfl;have b1:=(hbx.cell 1).trans rfl;have b2:=(hbx.cell 2).trans rfl;have q0:=HQ4.out _ hSw 0 (by omega);have q1:=HQ4.out _ hSw 1 (by omega);simp only[List.getElem_cons_succ,List.getElem_cons_zero,Nat.add_zero]at q0 q1;clear hbx;clear hSw;go_simp) hS ?_
      try simp only[Fl.ap]
      refine Fl.hpu 6 (o:=({ dst:=some 56,op:=Op.fieldAddr 160 (Operand.tmp 5) 1,type:=0,pos := "build.go:70",after := #[],guard:=none }:Oper)) (.pointer (some ⟨w.heap.size,1,none⟩)) (by kernel_rfl) rfl rfl (λ_ _ _ h=>h) rfl (by intro w' hSw;have e4:=HK4.out _ hSw;have hbx:=HB4.out _ hSw;have b0:=(hbx.cell 0).trans rfl;have b1:=(hbx.cell 1).trans rfl;have b2:=(hbx.cell 2).trans rfl;have q0:=HQ4.out _ hSw 0 (by omega);have q1:=HQ4.out _ hSw 1 (by omega);simp only[List.getElem_cons_succ,List.getElem_cons_zero,Nat.add_zero]at q0 q1;clear hbx;clear hSw;go_simp) hS ?_
      try simp only[Fl.ap]
      refine Fl.hpu 7 (o:=({ dst:=some 57,op:=Op.load 3 (Operand.tmp 56),type:=3,pos := "build.go:70",after := #[{ on:=6,ground:=Ground.data }],guard:=none }:Oper)) (.int .i64 ha) (by kernel_rfl) rfl rfl (λ_ _ _ h=>h) rfl (by intro w' hSw;have e4:=HK4.out _ hSw;have hbx:=HB4.out _ hSw;have b0:=(hbx.cell 0).trans rfl;have b1:=(hbx.cell 1).trans rfl;have b2:=(hbx.cell 2).trans rfl;have q0:=HQ4.out _ hSw 0 (by omega);have q1:=HQ4.out _ hSw 1 (by omega);simp only[List.getElem_cons_succ,List.getElem_cons_zero,Nat.add_zero]at q0 q1;clear hbx;clear hSw;go_simp) hS ?_
      try simp only[Fl.ap]
      refine Fl.hpu 8 (o:=({ dst:=some 58,op:=Op.fieldAddr 160 (Operand.tmp 5) 2,type:=0,pos := "build.go:70",after := #[],guard:=none }:Oper)) (.pointer (some ⟨w.heap.size,2,none⟩)) (by kernel_rfl) rfl rfl (λ_ _ _ h=>h) rfl (by intro w' hSw;have e4:=HK4.out _ hSw;have hbx:=HB4.out _ hSw;have b0:=(hbx.cell 0).trans rfl;have b1:=(hbx.cell 1).trans rfl;have b2:=(hbx.cell 2).trans rfl;have q0:=HQ4.out _ hSw 0 (by omega);have q1:=HQ4.out _ hSw 1 (by omega);simp only[List.getElem_cons_succ,List.getElem_cons_zero,Nat.add_zero]at q0 q1;clear hbx;clear hSw;go_simp) hS ?_
      try simp only[Fl.ap]
      refine Fl.hpu 9 (o:=({ dst:=some 59,op:=Op.load 3 (Operand.tmp 58),type:=3,pos := "build.go:70",after := #[{ on:=8,ground:=Ground.data }],guard:=none }:Oper)) (.int .i64 ex) (by kernel_rfl) rfl rfl (λ_ _ _ h=>h) rfl (by intro w' hSw;have e4:=HK4.out _ hSw;have hbx:=HB4.out _ hSw;have b0:=(hbx.cell 0).trans rfl;have b1:=(hbx.cell 1).trans rfl;have b2:=(hbx.cell 2).trans rfl;have q0:=HQ4.out _ hSw 0 (by omega);have q1:=HQ4.out _ hSw 1 (by omega);simp only[List.getElem_cons_succ,List.getElem_cons_zero,Nat.add_zero]at q0 q1;clear hbx;clear hSw;go_simp) hS ?_
      try simp only[Fl.ap]
      refine Fl.hpu 10 (o:=({ dst:=some 60,op:=Op.build 160 #[(0,Operand.tmp 55),(1,Operand.tmp 57),(2,Operand.tmp 59)],type:=160,pos := "build.go:70",after := #[{ on:=5,ground:=Ground.data },{ on:=7,ground:=Ground.data },{ on:=9,ground:=Ground.data }],guard:=none }:Oper)) (.agg #[.int .i64 (self:Int),.int .i64 ha,.int .i64 ex]) (by kernel_rfl) rfl rfl (λ_ _ _ h=>h) rfl (by intro w' hSw;have e4:=HK4.out _ hSw;have hbx:=HB4.out _ hSw;have b0:=(hbx.cell 0).trans rfl;have b1:=(hbx.cell 1).trans rfl;have b2:=(hbx.cell 2).trans rfl;have q0:=HQ4.out _ hSw 0 (by omega);have q1:=HQ4.out _ hSw 1 (by omega);simp only[List.getElem_cons_succ,List.getElem_cons_zero,Nat.add_zero]at q0 q1;clear hbx;clear hSw;go_simp) hS ?_
      try simp only[Fl.ap]
      refine Fl.hpu 12 (o:=({ dst:=some 62,op:=Op.fieldAddr 160 (Operand.tmp 5) 0,type:=0,pos := "build.go:70",after := #[],guard:=none }:Oper)) (.pointer (some ⟨w.heap.size,0,none⟩)) (by kernel_rfl) rfl rfl (λ_ _ _ h=>h) rfl (by intro w' hSw;have e4:=HK4.out _ hSw;have hbx:=HB4.out _ hSw;have b0:=(hbx.cell 0).trans rfl;have b1:=(hbx.cell 1).trans rfl;have b2:=(hbx.cell 2).trans rfl;have q0:=HQ4.out _ hSw 0 (by omega);have q1:=HQ4.out _ hSw 1 (by omega);simp only[List.getElem_cons_succ,List.getElem_cons_zero,Nat.add_zero]at q0 q1;clear hbx;clear hSw;go_simp) hS ?_
      try simp only[Fl.ap]
      refine Fl.hpu 13 (o:=({ dst:=some 63,op:=Op.load 3 (Operand.tmp 62),type:=3,pos := "build.go:70",after := #[{ on:=12,ground:=Ground.data }],guard:=none }:Oper)) (.int .i64 fo) (by kernel_rfl) rfl rfl (λ_ _ _ h=>h) rfl (by intro w' hSw;have e4:=HK4.out _ hSw;have hbx:=HB4.out _ hSw;have b0:=(hbx.cell 0).trans rfl;have b1:=(hbx.cell 1).trans rfl;have b2:=(hbx.cell 2).trans rfl;have q0:=HQ4.out _ hSw 0 (by omega);have q1:=HQ4.out _ hSw 1 (by omega);simp only[List.getElem_cons_succ,List.getElem_cons_zero,Nat.add_zero]at q0 q1;clear hbx;clear hSw;go_simp) hS ?_
      try simp only[Fl.ap]
      refine Fl.h_call 11 ({ dst:=some 61,op:=Op.call { callee:=Callee.value (Operand.func 137),args := #[Operand.tmp 50,Operand.tmp 54,Operand.tmp 60],argTypes := #[157,3,160] },type:=3,pos := "build.go:70",after := #[{ on:=0,ground:=Ground.data },{ on:=4,ground:=Ground.data },{ on:=10,ground:=Ground.data }],guard:=none }:Oper) (λv w1=>v = .int .i64 y1/\Fr (λb=>b=gb) V0 w1/\GR w1 gb (cap*5) X G1) own162 rfl rfl rfl (by kernel_rfl) rfl (args := #[.pointer (some ⟨g,0,none⟩),.int .i64 (kb1:Int),.agg #[.int .i64 (self:Int),.int .i64 ha,.int .i64 ex]]) rfl (((HQC1.out _ hS hG0 HGN.out (by have:=HPF.out;omega) (by have:=HPF.out;omega) hk1).mono λe w1 q=>⟨_,q.1,rfl,q.2⟩)) ?_
      rintro v V1 ⟨rfl,hb5,hG1⟩
      have hS0:=hS
      have hS:=hS.trans hb5
      refine⟨hS,?_⟩
      try simp only[Fl.ap]
      refine Fl.h_oneK 14 ({ dst:=some 64,op:=Op.buildSlice 28 2 #[(0,Operand.tmp 61),(1,Operand.tmp 63)],type:=28,pos := "build.go:70",after := #[{ on:=11,ground:=Ground.data },{ on:=13,ground:=Ground.data }],guard:=none }:Oper) rfl (by kernel_rfl) rfl (λK2 hK2 =>?_)
      go_simp
      refine hK2.out _ _ (hS.trans (Fr.of (heap1 _ _))) (λhS2 =>?_)
      clear hK2 K2
      replace hS:=hS2
      try simp only[Fl.ap]
      refine Fl.hpu 15 (o:=({ dst:=some 10,op:=Op.assign (Operand.tmp 64),type:=28,pos := "build.go:70",after := #[{ on:=14,ground:=Ground.data },{ on:=11,ground:=Ground.chain },{ on:=0,ground:=Ground.phase },{ on:=1,ground:=Ground.phase },{ on:=2,ground:=Ground.phase },{ on:=3,ground:=Ground.phase },{ on:=4,ground:=Ground.phase },{ on:=5,ground:=Ground.phase },{ on:=6,ground:=Ground.phase },{ on:=7,ground:=Ground.phase },{ on:=8,ground:=Ground.phase },{ on:=9,ground:=Ground.phase },{ on:=10,ground:=Ground.phase },{ on:=11,ground:=Ground.phase },{ on:=12,ground:=Ground.phase },{ on:=13,ground:=Ground.phase },{ on:=14,ground:=Ground.phase }],guard:=none }:Oper)) (.slice (some ⟨V1.heap.size,0,none⟩) 2 2) (by kernel_rfl) rfl rfl (λ_ _ _ h=>h) rfl (by intro w' hSw;have e4:=HK4.out _ hSw;have hbx:=HB4.out _ hSw;have b0:=(hbx.cell 0).trans rfl;have b1:=(hbx.cell 1).trans rfl;have b2:=(hbx.cell 2).trans rfl;have q0:=HQ4.out _ hSw 0 (by omega);have q1:=HQ4.out _ hSw 1 (by omega);simp only[List.getElem_cons_succ,List.getElem_cons_zero,Nat.add_zero]at q0 q1;clear hbx;clear hSw;go_simp) hS ?_
      try simp only[Fl.ap]
      refine wpAnyH_done (by kernel_rfl) ?_ _
      clear hS
      go_wp2_with fail
      go_meet
      exact⟨rfl,_,_,rfl,kd_newF V1 X [y1,fo] (λb hb=>Nat.lt_of_lt_of_le (HX2.out b hb) (hS0.trans hb5).size),hS2,hG1.of_fr (heap1 _ _)⟩
     by_cases h16:kd=16
     ·subst h16
      obtain⟨kb1,kd1,hks,hlt1,hlt2,hk1,hk2⟩:=HF.out.try_ p HPF.out.2 (by rw[HNT.out])
      rw[HNT.out]at hks
      dsimp only at hks
      subst hks
      obtain rfl:2=mk:=HMK.out
      obtain⟨kk,off2,rfl,hkl,hkc⟩:=HXI.out (by simp)
      obtain⟨⟨G1,y1⟩,hy1⟩:∃RR,BF G (kb1:Int) fo (self:Int)=RR:=⟨_,rfl⟩
      obtain⟨⟨G2,y2⟩,hy2⟩:∃RR,BF G1 (kd1:Int) fo ha=RR:=⟨_,rfl⟩
      have hSE:S=(G2,y1,[y2]):=by
       rw[<- HSW.out];unfold swG
       simp only[if_true,List.getD_cons_succ,List.getD_cons_zero,hy1,hy2,(by decide:¬(16:Int)=11),(by decide:¬(16:Int)=12),if_false]
      subst hSE
      have HGL:=hid (show G1.length=N from by
       have:(BF G (kb1:Int) fo (self:Int)).1.length=G.length:=by rw[<- HBF.out];exact blG_len l R sp f G kb1 fo self ex
       rw[hy1]at this;exact this.trans HGN.out)
      have HQC1:=hid (λ(W:World) (q:Fr (λb=>b=gb) W2 W)=>HBLH.out kb1 W G fo (self:Int) ex (HS2.out.fr q) (λb hb=>Nat.lt_of_lt_of_le (HX2.out b hb) q.size))
      have e1:blG l R sp f G kb1 fo (self:Int) ex=(G1,y1):=by rw[<- hy1,<- HBF.out];rfl
      rw[e1]at HQC1
      have HQC2:=hid (λ(W:World) (q:Fr (λb=>b=gb) W2 W)=>HBLH.out kd1 W G1 fo ha ex (HS2.out.fr q) (λb hb=>Nat.lt_of_lt_of_le (HX2.out b hb) q.size))
      have e2:blG l R sp f G1 kd1 fo ha ex=(G2,y2):=by rw[<- hy2,<- HBF.out];rfl
      rw[e2]at HQC2
      have HK4:=hid (λ(W:World) (q:Fr (λb=>b=gb) W2 W)=>show W.cell? ⟨gg,4,none⟩=some (.slice (some ⟨kk,off2,none⟩) 2 cK) from(Tr.cell_same (q.block gg HG2.out HNE.out.1) _).trans d4)
      have HB4:=hid (λ(W:World) (q:Fr (λb=>b=gb) W2 W)=>Bx.fr HC2.out q HNE.out.2)
      have HQ4:=hid (λ(W:World) (q:Fr (λb=>b=gb) W2 W) (j:Nat) (hj:j<2)=>(Tr.cell_same (q.block kk (Nat.lt_of_lt_of_le hkl HS2.out.b.size) (λe=>by have:=HS2.out.ge;have e:kk=gb:=e;omega)) (off2+j)).trans (((HS2.out.b).cell (p:=⟨kk,off2+j,none⟩) hkl).trans (hkc j hj)))
      go_upto_region 9 with(fail)
      clear d0 d4 hy1 hy2 e1 e2 hkc
      refine wp_region_held (S:=(λW'=>Fr (λb=>b=gb) W2 W')) (by kernel_rfl) ?_
      have hS:(λW'=>Fr (λb=>b=gb) W2 W') ({ W2 with drawn:=W2.drawn+1 }:World):=Fr.of (Below.refl _ _).drew
      have hG0:GR ({ W2 with drawn:=W2.drawn+1 }:World) gb (cap*5) X G:=HG2R.out.of_fr (Below.refl _ _).drew
      generalize ({ W2 with drawn:=W2.drawn+1 }:World)=V0 at *
      refine Fl.hpu 0 (o:=({ dst:=some 67,op:=Op.move (Operand.tmp 0),type:=157,pos := "build.go:72",after := #[],guard:=none }:Oper)) (.pointer (some ⟨g,0,none⟩)) (by kernel_rfl) rfl rfl (λ_ _ _ h=>h) rfl (by intro w' hSw;have e4:=HK4.out _ hSw;have hbx:=HB4.out _ hSw;have b0:=(hbx.cell 0).trans rfl;have b1:=(hbx.cell 1).trans rfl;have b2:=(hbx.cell 2).trans rfl;have q0:=HQ4.out _ hSw 0 (by omega);have q1:=HQ4.out _ hSw 1 (by omega);simp only[List.getElem_cons_succ,List.getElem_cons_zero,Nat.add_zero]at q0 q1;clear hbx;clear hSw;go_simp) hS ?_
      try simp only[Fl.ap]
      refine Fl.hpu 1 (o:=({ dst:=some 68,op:=Op.fieldAddr 50 (Operand.tmp 7) 4,type:=0,pos := "build.go:72",after := #[],guard:=none }:Oper)) (.pointer (some ⟨gg,4,none⟩)) (by kernel_rfl) rfl rfl (λ_ _ _ h=>h) rfl (by intro w' hSw;have e4:=HK4.out _ hSw;have hbx:=HB4.out _ hSw;have b0:=(hbx.cell 0).trans rfl;have b1:=(hbx.cell 1).trans rfl;have b2:=(hbx.cell 2).trans rfl;have q0:=HQ4.out _ hSw 0 (by omega);have q1:=HQ4.out _ hSw 1 (by omega);simp only[List.getElem_cons_succ,List.getElem_cons_zero,Nat.add_zero]at q0 q1;clear hbx;clear hSw;go_simp) hS ?_
      try simp only[Fl.ap]
      refine Fl.hpu 2 (o:=({ dst:=some 69,op:=Op.load 28 (Operand.tmp 68),type:=28,pos := "build.go:72",after := #[{ on:=1,ground:=Ground.data }],guard:=none }:Oper)) ((.slice (some ⟨kk,off2,none⟩) 2 cK)) (by kernel_rfl) rfl rfl (λ_ _ _ h=>h) rfl (by intro w' hSw;have e4:=HK4.out _ hSw;have hbx:=HB4.out _ hSw;have b0:=(hbx.cell 0).trans rfl;have b1:=(hbx.cell 1).trans rfl;have b2:=(hbx.cell 2).trans rfl;have q0:=HQ4.out _ hSw 0 (by omega);have q1:=HQ4.out _ hSw 1 (by omega);simp only[List.getElem_cons_succ,List.getElem_cons_zero,Nat.add_zero]at q0 q1;clear hbx;clear hSw;go_simp) hS ?_
      try simp only[Fl.ap]
      refine Fl.hpu 3 (o:=({ dst:=some 70,op:=Op.indexAddr 28 (Operand.tmp 69) (Operand.const (Value.int IntKind.i64 0)),type:=0,pos := "build.go:72",after := #[{ on:=2,ground:=Ground.data }],guard:=none }:Oper)) (.pointer (some ⟨kk,off2,none⟩)) (by kernel_rfl) rfl rfl (λ_ _ _ h=>h) rfl (by intro w' hSw;have e4:=HK4.out _ hSw;have hbx:=HB4.out _ hSw;have b0:=(hbx.cell 0).trans rfl;have b1:=(hbx.cell 1).trans rfl;have b2:=(hbx.cell 2).trans rfl;have q0:=HQ4.out _ hSw 0 (by omega);have q1:=HQ4.out _ hSw 1 (by omega);simp only[List.getElem_cons_succ,List.getElem_cons_zero,Nat.add_zero]at q0 q1;clear hbx;clear hSw;go_simp) hS ?_
      try simp only[Fl.ap]
      refine Fl.hpu 4 (o:=({ dst:=some 71,op:=Op.load 3 (Operand.tmp 70),type:=3,pos := "build.go:72",after := #[{ on:=3,ground:=Ground.data }],guard:=none }:Oper)) (.int .i64 (kb1:Int)) (by kernel_rfl) rfl rfl (λ_ _ _ h=>h) rfl (by intro w' hSw;have e4:=HK4.out _ hSw;have hbx:=HB4.out _ hSw;have b0:=(hbx.cell 0).trans rfl;have b1:=(hbx.cell 1).trans rfl;have b2:=(hbx.cell 2).trans rfl;have q0:=HQ4.out _ hSw 0 (by omega);have q1:=HQ4.out _ hSw 1 (by omega);simp only[List.getElem_cons_succ,List.getElem_cons_zero,Nat.add_zero]at q0 q1;clear hbx;clear hSw;go_simp) hS ?_
      try simp only[Fl.ap]
      refine Fl.hpu 5 (o:=({ dst:=some 72,op:=Op.fieldAddr 160 (Operand.tmp 5) 0,type:=0,pos := "build.go:72",after := #[],guard:=none }:Oper)) (.pointer (some ⟨w.heap.size,0,none⟩)) (by kernel_rfl) rfl rfl (λ_ _ _ h=>h) rfl (by intro w' hSw;have e4:=HK4.out _ hSw;have hbx:=HB4.out _ hSw;have b0:=(hbx.cell 0).trans rfl;have b1:=(hbx.cell 1).trans rfl;have b2:=(hbx.cell 2).trans rfl;have q0:=HQ4.out _ hSw 0 (by omega);have q1:=HQ4.out _ hSw 1 (by omega);simp only[List.getElem_cons_succ,List.getElem_cons_zero,Nat.add_zero]at q0 q1;clear hbx;clear hSw;go_simp) hS ?_
      try simp only[Fl.ap]
      refine Fl.hpu 6 (o:=({ dst:=some 73,op:=Op.load 3 (Operand.tmp 72),type:=3,pos := "build.go:72",after := #[{ on:=5,ground:=Ground.data }],guard:=none }:Oper)) (.int .i64 fo) (by kernel_rfl) rfl rfl (λ_ _ _ h=>h) rfl (by intro w' hSw;have e4:=HK4.out _ hSw;have hbx:=HB4.out _ hSw;have b0:=(hbx.cell 0).trans rfl;have b1:=(hbx.cell 1).trans rfl;have b2:=(hbx.cell 2).trans rfl;have q0:=HQ4.out _ hSw 0 (by omega);have q1:=HQ4.out _ hSw 1 (by omega);simp only[List.getElem_cons_succ,List.getElem_cons_zero,Nat.add_zero]at q0 q1;clear hbx;clear hSw;go_simp) hS ?_
      try simp only[Fl.ap]
      refine Fl.hpu 7 (o:=({ dst:=some 74,op:=Op.move (Operand.tmp 8),type:=3,pos := "build.go:72",after := #[],guard:=none }:Oper)) (.int .i64 (self:Int)) (by kernel_rfl) rfl rfl (λ_ _ _ h=>h) rfl (by intro w' hSw;have e4:=HK4.out _ hSw;have hbx:=HB4.out _ hSw;have b0:=(hbx.cell 0).trans rfl;have b1:=(hbx.cell 1).trans rfl;have b2:=(hbx.cell 2).trans rfl;have q0:=HQ4.out _ hSw 0 (by omega);have q1:=HQ4.out _ hSw 1 (by omega);simp only[List.getElem_cons_succ,List.getElem_cons_zero,Nat.add_zero]at q0 q1;clear hbx;clear hSw;go_simp) hS ?_
      try simp only[Fl.ap]
      refine Fl.hpu 8 (o:=({ dst:=some 75,op:=Op.fieldAddr 160 (Operand.tmp 5) 2,type:=0,pos := "build.go:72",after := #[],guard:=none }:Oper)) (.pointer (some ⟨w.heap.size,2,none⟩)) (by kernel_rfl) rfl rfl (λ_ _ _ h=>h) rfl (by intro w' hSw;have e4:=HK4.out _ hSw;have hbx:=HB4.out _ hSw;have b0:=(hbx.cell 0).trans rfl;have b1:=(hbx.cell 1).trans rfl;have b2:=(hbx.cell 2).trans rfl;have q0:=HQ4.out _ hSw 0 (by omega);have q1:=HQ4.out _ hSw 1 (by omega);simp only[List.getElem_cons_succ,List.getElem_cons_zero,Nat.add_zero]at q0 q1;clear hbx;clear hSw;go_simp) hS ?_
      try simp only[Fl.ap]
      refine Fl.hpu 9 (o:=({ dst:=some 76,op:=Op.load 3 (Operand.tmp 75),type:=3,pos := "build.go:72",after := #[{ on:=8,ground:=Ground.data }],guard:=none }:Oper)) (.int .i64 ex) (by kernel_rfl) rfl rfl (λ_ _ _ h=>h) rfl (by intro w' hSw;have e4:=HK4.out _ hSw;have hbx:=HB4.out _ hSw;have b0:=(hbx.cell 0).trans rfl;have b1:=(hbx.cell 1).trans rfl;have b2:=(hbx.cell 2).trans rfl;have q0:=HQ4.out _ hSw 0 (by omega);have q1:=HQ4.out _ hSw 1 (by omega);simp only[List.getElem_cons_succ,List.getElem_cons_zero,Nat.add_zero]at q0 q1;clear hbx;clear hSw;go_simp) hS ?_
      try simp only[Fl.ap]
      refine Fl.hpu 10 (o:=({ dst:=some 77,op:=Op.build 160 #[(0,Operand.tmp 73),(1,Operand.tmp 74),(2,Operand.tmp 76)],type:=160,pos := "build.go:72",after := #[{ on:=6,ground:=Ground.data },{ on:=7,ground:=Ground.data },{ on:=9,ground:=Ground.data }],guard:=none }:Oper)) (.agg #[.int .i64 fo,.int .i64 (self:Int),.int .i64 ex]) (by kernel_rfl) rfl rfl (λ_ _ _ h=>h) rfl (by intro w' hSw;have e4:=HK4.out _ hSw;have hbx:=HB4.out _ hSw;have b0:=(hbx.cell 0).trans rfl;have b1:=(hbx.cell 1).trans rfl;have b2:=(hbx.cell 2).trans rfl;have q0:=HQ4.out _ hSw 0 (by omega);have q1:=HQ4.out _ hSw 1 (by omega);simp only[List.getElem_cons_succ,List.getElem_cons_zero,Nat.add_zero]at q0 q1;clear hbx;clear hSw;go_simp) hS ?_
      try simp only[Fl.ap]
      refine Fl.h_call 11 ({ dst:=some 78,op:=Op.call { callee:=Callee.value (Operand.func 137),args := #[Operand.tmp 67,Operand.tmp 71,Operand.tmp 77],argTypes := #[157,3,160] },type:=3,pos := "build.go:72",after := #[{ on:=0,ground:=Ground.data },{ on:=4,ground:=Ground.data },{ on:=10,ground:=Ground.data }],guard:=none }:Oper) (λv w1=>v = .int .i64 y1/\Fr (λb=>b=gb) V0 w1/\GR w1 gb (cap*5) X G1) own162 rfl rfl rfl (by kernel_rfl) rfl (args := #[.pointer (some ⟨g,0,none⟩),.int .i64 (kb1:Int),.agg #[.int .i64 fo,.int .i64 (self:Int),.int .i64 ex]]) rfl (((HQC1.out _ hS hG0 HGN.out (by have:=HPF.out;omega) (by have:=HPF.out;omega) hk1).mono λe w1 q=>⟨_,q.1,rfl,q.2⟩)) ?_
      rintro v V1 ⟨rfl,hb5,hG1⟩
      have hS0:=hS
      have hS:=hS.trans hb5
      refine⟨hS,?_⟩
      try simp only[Fl.ap]
      refine Fl.hpu 12 (o:=({ dst:=some 9,op:=Op.assign (Operand.tmp 78),type:=3,pos := "build.go:72",after := #[{ on:=11,ground:=Ground.data },{ on:=11,ground:=Ground.chain },{ on:=0,ground:=Ground.phase },{ on:=1,ground:=Ground.phase },{ on:=2,ground:=Ground.phase },{ on:=3,ground:=Ground.phase },{ on:=4,ground:=Ground.phase },{ on:=5,ground:=Ground.phase },{ on:=6,ground:=Ground.phase },{ on:=7,ground:=Ground.phase },{ on:=8,ground:=Ground.phase },{ on:=9,ground:=Ground.phase },{ on:=10,ground:=Ground.phase },{ on:=11,ground:=Ground.phase }],guard:=none }:Oper)) (.int .i64 y1) (by kernel_rfl) rfl rfl (λ_ _ _ h=>h) rfl (by intro w' hSw;have e4:=HK4.out _ hSw;have hbx:=HB4.out _ hSw;have b0:=(hbx.cell 0).trans rfl;have b1:=(hbx.cell 1).trans rfl;have b2:=(hbx.cell 2).trans rfl;have q0:=HQ4.out _ hSw 0 (by omega);have q1:=HQ4.out _ hSw 1 (by omega);simp only[List.getElem_cons_succ,List.getElem_cons_zero,Nat.add_zero]at q0 q1;clear hbx;clear hSw;go_simp) hS ?_
      try simp only[Fl.ap]
      refine wpAnyH_done (by kernel_rfl) ?_ _
      have hS9:=hS
      clear hS
      go_upto_region 10 with(fail)
      refine wp_region_held (S:=(λW'=>Fr (λb=>b=gb) W2 W')) (by kernel_rfl) ?_
      have hS:(λW'=>Fr (λb=>b=gb) W2 W') ({ V1 with drawn:=V1.drawn+1 }:World):=hS9.trans (Fr.of (Below.refl _ _).drew)
      have hG1b:GR ({ V1 with drawn:=V1.drawn+1 }:World) gb (cap*5) X G1:=hG1.of_fr (Below.refl _ _).drew
      generalize ({ V1 with drawn:=V1.drawn+1 }:World)=V0 at *
      refine Fl.hpu 0 (o:=({ dst:=some 79,op:=Op.move (Operand.tmp 0),type:=157,pos := "build.go:73",after := #[],guard:=none }:Oper)) (.pointer (some ⟨g,0,none⟩)) (by kernel_rfl) rfl rfl (λ_ _ _ h=>h) rfl (by intro w' hSw;have e4:=HK4.out _ hSw;have hbx:=HB4.out _ hSw;have b0:=(hbx.cell 0).trans rfl;have b1:=(hbx.cell 1).trans rfl;have b2:=(hbx.cell 2).trans rfl;have q0:=HQ4.out _ hSw 0 (by omega);have q1:=HQ4.out _ hSw 1 (by omega);simp only[List.getElem_cons_succ,List.getElem_cons_zero,Nat.add_zero]at q0 q1;clear hbx;clear hSw;go_simp) hS ?_
      try simp only[Fl.ap]
      refine Fl.hpu 1 (o:=({ dst:=some 80,op:=Op.fieldAddr 50 (Operand.tmp 7) 4,type:=0,pos := "build.go:73",after := #[],guard:=none }:Oper)) (.pointer (some ⟨gg,4,none⟩)) (by kernel_rfl) rfl rfl (λ_ _ _ h=>h) rfl (by intro w' hSw;have e4:=HK4.out _ hSw;have hbx:=HB4.out _ hSw;have b0:=(hbx.cell 0).trans rfl;have b1:=(hbx.cell 1).trans rfl;have b2:=(hbx.cell 2).trans rfl;have q0:=HQ4.out _ hSw 0 (by omega);have q1:=HQ4.out _ hSw 1 (by omega);simp only[List.getElem_cons_succ,List.getElem_cons_zero,Nat.add_zero]at q0 q1;clear hbx;clear hSw;go_simp) hS ?_
      try simp only[Fl.ap]
      refine Fl.hpu 2 (o:=({ dst:=some 81,op:=Op.load 28 (Operand.tmp 80),type:=28,pos := "build.go:73",after := #[{ on:=1,ground:=Ground.data }],guard:=none }:Oper)) ((.slice (some ⟨kk,off2,none⟩) 2 cK)) (by kernel_rfl) rfl rfl (λ_ _ _ h=>h) rfl (by intro w' hSw;have e4:=HK4.out _ hSw;have hbx:=HB4.out _ hSw;have b0:=(hbx.cell 0).trans rfl;have b1:=(hbx.cell 1).trans rfl;have b2:=(hbx.cell 2).trans rfl;have q0:=HQ4.out _ hSw 0 (by omega);have q1:=HQ4.out _ hSw 1 (by omega);simp only[List.getElem_cons_succ,List.getElem_cons_zero,Nat.add_zero]at q0 q1;clear hbx;clear hSw;go_simp) hS ?_
      try simp only[Fl.ap]
      refine Fl.hpu 3 (o:=({ dst:=some 82,op:=Op.indexAddr 28 (Operand.tmp 81) (Operand.const (Value.int IntKind.i64 1)),type:=0,pos := "build.go:73",after := #[{ on:=2,ground:=Ground.data }],guard:=none }:Oper)) (.pointer (some ⟨kk,off2+1,none⟩)) (by kernel_rfl) rfl rfl (λ_ _ _ h=>h) rfl (by intro w' hSw;have e4:=HK4.out _ hSw;have hbx:=HB4.out _ hSw;have b0:=(hbx.cell 0).trans rfl;have b1:=(hbx.cell 1).trans rfl;have b2:=(hbx.cell 2).trans rfl;have q0:=HQ4.out _ hSw 0 (by omega);have q1:=HQ4.out _ hSw 1 (by omega);simp only[List.getElem_cons_succ,List.getElem_cons_zero,Nat.add_zero]at q0 q1;clear hbx;clear hSw;go_simp) hS ?_
      try simp only[Fl.ap]
      refine Fl.hpu 4 (o:=({ dst:=some 83,op:=Op.load 3 (Operand.tmp 82),type:=3,pos := "build.go:73",after := #[{ on:=3,ground:=Ground.data }],guard:=none }:Oper)) (.int .i64 (kd1:Int)) (by kernel_rfl) rfl rfl (λ_ _ _ h=>h) rfl (by intro w' hSw;have e4:=HK4.out _ hSw;have hbx:=HB4.out _ hSw;have b0:=(hbx.cell 0).trans rfl;have b1:=(hbx.cell 1).trans rfl;have b2:=(hbx.cell 2).trans rfl;have q0:=HQ4.out _ hSw 0 (by omega);have q1:=HQ4.out _ hSw 1 (by omega);simp only[List.getElem_cons_succ,List.getElem_cons_zero,Nat.add_zero]at q0 q1;clear hbx;clear hSw;go_simp) hS ?_
      try simp only[Fl.ap]
      refine Fl.hpu 5 (o:=({ dst:=some 84,op:=Op.load 160 (Operand.tmp 5),type:=160,pos := "build.go:73",after := #[],guard:=none }:Oper)) (.agg #[.int .i64 fo,.int .i64 ha,.int .i64 ex]) (by kernel_rfl) rfl rfl (λ_ _ _ h=>h) rfl (by intro w' hSw;have e4:=HK4.out _ hSw;have hbx:=HB4.out _ hSw;have b0:=(hbx.cell 0).trans rfl;have b1:=(hbx.cell 1).trans rfl;have b2:=(hbx.cell 2).trans rfl;have q0:=HQ4.out _ hSw 0 (by omega);have q1:=HQ4.out _ hSw 1 (by omega);simp only[List.getElem_cons_succ,List.getElem_cons_zero,Nat.add_zero]at q0 q1;clear hbx;clear hSw;go_simp) hS ?_
      try simp only[Fl.ap]
      refine Fl.h_call 6 ({ dst:=some 85,op:=Op.call { callee:=Callee.value (Operand.func 137),args := #[Operand.tmp 79,Operand.tmp 83,Operand.tmp 84],argTypes := #[157,3,160] },type:=3,pos := "build.go:73",after := #[{ on:=0,ground:=Ground.data },{ on:=4,ground:=Ground.data },{ on:=5,ground:=Ground.data }],guard:=none }:Oper) (λv w1=>v = .int .i64 y2/\Fr (λb=>b=gb) V0 w1/\GR w1 gb (cap*5) X G2) own162 rfl rfl rfl (by kernel_rfl) rfl (args := #[.pointer (some ⟨g,0,none⟩),.int .i64 (kd1:Int),.agg #[.int .i64 fo,.int .i64 ha,.int .i64 ex]]) rfl (((HQC2.out _ hS hG1b HGL.out (by have:=HPF.out;omega) (by have:=HPF.out;omega) hk2).mono λe w1 q=>⟨_,q.1,rfl,q.2⟩)) ?_
      rintro v V2 ⟨rfl,hb6,hG2⟩
      have hS1:=hS
      have hS:=hS.trans hb6
      refine⟨hS,?_⟩
      try simp only[Fl.ap]
      refine Fl.h_oneK 7 ({ dst:=some 86,op:=Op.buildSlice 28 1 #[(0,Operand.tmp 85)],type:=28,pos := "build.go:73",after := #[{ on:=6,ground:=Ground.data }],guard:=none }:Oper) rfl (by kernel_rfl) rfl (λK2 hK2 =>?_)
      go_simp
      refine hK2.out _ _ (hS.trans (Fr.of (heap1 _ _))) (λhS2 =>?_)
      clear hK2 K2
      replace hS:=hS2
      try simp only[Fl.ap]
      refine Fl.hpu 8 (o:=({ dst:=some 10,op:=Op.assign (Operand.tmp 86),type:=28,pos := "build.go:73",after := #[{ on:=7,ground:=Ground.data },{ on:=6,ground:=Ground.chain },{ on:=0,ground:=Ground.phase },{ on:=1,ground:=Ground.phase },{ on:=2,ground:=Ground.phase },{ on:=3,ground:=Ground.phase },{ on:=4,ground:=Ground.phase },{ on:=5,ground:=Ground.phase },{ on:=6,ground:=Ground.phase },{ on:=7,ground:=Ground.phase }],guard:=none }:Oper)) (.slice (some ⟨V2.heap.size,0,none⟩) 1 1) (by kernel_rfl) rfl rfl (λ_ _ _ h=>h) rfl (by intro w' hSw;have e4:=HK4.out _ hSw;have hbx:=HB4.out _ hSw;have b0:=(hbx.cell 0).trans rfl;have b1:=(hbx.cell 1).trans rfl;have b2:=(hbx.cell 2).trans rfl;have q0:=HQ4.out _ hSw 0 (by omega);have q1:=HQ4.out _ hSw 1 (by omega);simp only[List.getElem_cons_succ,List.getElem_cons_zero,Nat.add_zero]at q0 q1;clear hbx;clear hSw;go_simp) hS ?_
      try simp only[Fl.ap]
      refine wpAnyH_done (by kernel_rfl) ?_ _
      clear hS
      go_wp2_with fail
      go_meet
      exact⟨rfl,_,_,rfl,kd_newF V2 X [y2] (λb hb=>Nat.lt_of_lt_of_le (HX2.out b hb) (hS1.trans hb6).size),hS2,hG2.of_fr (heap1 _ _)⟩
     have b2:=(HC2.out.cell 2).trans rfl
     by_cases h14:kd=14
     ·subst h14
      have hSE:S=(G,(self:Int),[ex]):=by
       rw[<- HSW.out];unfold swG
       simp only[if_true,if_false,(by decide:¬(14:Int)=11),(by decide:¬(14:Int)=12),(by decide:¬(14:Int)=16)]
      subst hSE
      go_wp2_with fail
      go_meet
      exact⟨rfl,_,_,rfl,kd_newF W2 X [ex] HX2.out,Fr.of (heap1 _ _),HG2R.out.of_fr (heap1 _ _)⟩
     by_cases h15:kd=15
     ·subst h15
      have hSE:S=(G,(self:Int),[]):=by
       rw[<- HSW.out];unfold swG
       simp only[if_true,if_false,(by decide:¬(15:Int)=11),(by decide:¬(15:Int)=12),(by decide:¬(15:Int)=16),(by decide:¬(15:Int)=14)]
      subst hSE
      go_wp2_with fail
      go_meet
      exact⟨rfl,none,0,rfl,λh=>absurd h (Nat.lt_irrefl 0),Fr.refl _ _,HG2R.out⟩
     have hSE:S=(G,(self:Int),[fo]):=by
      rw[<- HSW.out];unfold swG
      simp only[if_false,h11,h12,h16,h14,h15]
     subst hSE
     go_wp2_with fail
     go_meet
     exact⟨rfl,_,_,rfl,HK2.out,Fr.refl _ _,HG2R.out⟩
   case rest=>
    obtain⟨rfl,K',cK',rfl,hkd3,hfr3,hgr3⟩:=hcut
    obtain⟨W3,rfl⟩:∃W3,W3=wc:=⟨_,rfl⟩
    clear d0 d4 HK2 HSW HBF HBLH
    obtain⟨S1,S2,nx⟩:=S
    dsimp only at hkd3 hgr3 HFR |-
    have hN1:S1.length=N:=by
     have:=congrArg (λq:List Gn × Int=>q.1.length) HFR.out
     simp only[stG_len,wayG_len]at this
     exact this.symm.trans HGN.out
    have HSELF2:=HSELF.out.2
    have bx3:=(HS2.out.fr hfr3).bx
    have c3:=(bx3.cell 3).trans rfl
    have hz:(self:Int)<(N:Int):=by omega
    obtain⟨cs3,hcb3,hcl3,hcc3⟩:=id hgr3
    obtain⟨-,-,-,-,K0,c0,hc0,-⟩:=hcc3 self (by omega)
    have fz3:=hcb3.frozen (self*5+3)
    have g3:=(hcb3.cell (self*5+3)).trans hc0
    have hgr4:=(hgr3.next (i:=self) (by omega) (c:=cK') hkd3)
    clear hcb3 hcl3 hcc3 hc0
    go_upto_region 16 with(fail)
    obtain⟨W4,hW4⟩:∃W4,W3.setCell ⟨gb,self*5+3,none⟩ (.slice K' nx.length cK')=W4:=⟨_,rfl⟩
    rw[hW4]at hgr4
    rw[hW4]
    have HFR4:=hid (hfr3.trans hgr4.2)
    have HGR4:=hid hgr4.1
    have HS4:=hid (HS2.out.fr HFR4.out)
    have hbx4:=Bx.fr HC2.out HFR4.out HNE.out.2
    have bx4:=HS4.out.bx
    have k1:=(bx4.cell 1).trans rfl
    have HB4:=hid hbx4
    have HX4:=hid bx4
    have r4:=HS4.out.rs.cell hpn
    have hN2:(wayG S1 self nx none).length=N:=(wayG_len _ _ _ _).trans hN1
    have hw1:wayG S1 self nx none=S1.set self ⟨(S1[self]'(by omega)).kd,(S1[self]'(by omega)).pl,(S1[self]'(by omega)).pr,nx,(S1[self]'(by omega)).rs⟩:=by unfold wayG;rw[List.getElem?_eq_getElem (by omega)];rfl
    have HRA:=hid (λ(W:World) (q:GR W gb (cap*5) X (wayG S1 self nx none))=>q.raise (i:=self) (by omega) ha)
    have hw2:wayG (wayG S1 self nx none) self ((wayG S1 self nx none)[self]'(by omega)).nx (some ha)=wayG S1 self nx (some ha):=by
     simp only[hw1,List.getElem_set_self]
     unfold wayG
     rw[List.getElem?_set_self (by omega),List.getElem?_eq_getElem (by omega)]
     simp
    rw[hw2]at HRA
    obtain⟨cs4,hcb4,hcl4,hcc4⟩:=id HGR4.out
    obtain⟨-,-,-,hc4,-⟩:=hcc4 self (by omega)
    have HCB:=hid (And.intro hcb4 hc4)
    have HWW:=hid (HSF.out.trans ((Fr.of HB2.out).trans HFR4.out))
    clear hgr4 fz3 g3 c3 bx3 hkd3 hgr3 hfr3 hbx4 bx4 hcb4 hcl4 hcc4 hc4 hw1 hw2 hN1
    by_cases hR:R p=true
    ·rw[hR]at r4
     rw[if_pos hR]at HFR
     go_upto_region 17 with(fail)
     clear k1 r4
     refine wp_region_held (S:=(λW'=>Fr (λb=>b=gb) W4 W')) (by kernel_rfl) ?_
     have hS:(λW'=>Fr (λb=>b=gb) W4 W') ({ W4 with drawn:=W4.drawn+1 }:World):=Fr.of (Below.refl _ _).drew
     have hG0:GR ({ W4 with drawn:=W4.drawn+1 }:World) gb (cap*5) X (wayG S1 self nx none):=HGR4.out.of_fr (Below.refl _ _).drew
     have hcb0:Bx ({ W4 with drawn:=W4.drawn+1 }:World) gb 42 cs4:=HCB.out.1.below (Below.refl _ _).drew HCB.out.1.lt
     generalize ({ W4 with drawn:=W4.drawn+1 }:World)=V0 at *
     refine Fl.hpu 0 (o:=({ dst:=some 110,op:=Op.move (Operand.tmp 0),type:=157,pos := "build.go:81",after := #[],guard:=none }:Oper)) (.pointer (some ⟨g,0,none⟩)) (by kernel_rfl) rfl rfl (λ_ _ _ h=>h) rfl (by intro w' hSw;have z3:=((Bx.fr HX4.out hSw (λe=>HS4.out.ne.1 e)).cell 3).trans rfl;have z1:=((Bx.fr HB4.out hSw HNE.out.2).cell 1).trans rfl;clear hSw;go_simp) hS ?_
     try simp only[Fl.ap]
     refine Fl.hpu 1 (o:=({ dst:=some 111,op:=Op.nilCheck (Operand.tmp 110),type:=0,pos := "build.go:81",after := #[{ on:=0,ground:=Ground.data }],guard:=none }:Oper)) (.pointer (some ⟨g,0,none⟩)) (by kernel_rfl) rfl rfl (λ_ _ _ h=>h) rfl (by intro w' hSw;have z3:=((Bx.fr HX4.out hSw (λe=>HS4.out.ne.1 e)).cell 3).trans rfl;have z1:=((Bx.fr HB4.out hSw HNE.out.2).cell 1).trans rfl;clear hSw;go_simp) hS ?_
     try simp only[Fl.ap]
     refine Fl.hpu 2 (o:=({ dst:=some 112,op:=Op.fieldAddr 116 (Operand.tmp 111) 3,type:=0,pos := "build.go:81",after := #[{ on:=1,ground:=Ground.data }],guard:=none }:Oper)) (.pointer (some ⟨g,3,none⟩)) (by kernel_rfl) rfl rfl (λ_ _ _ h=>h) rfl (by intro w' hSw;have z3:=((Bx.fr HX4.out hSw (λe=>HS4.out.ne.1 e)).cell 3).trans rfl;have z1:=((Bx.fr HB4.out hSw HNE.out.2).cell 1).trans rfl;clear hSw;go_simp) hS ?_
     try simp only[Fl.ap]
     refine Fl.hpu 3 (o:=({ dst:=some 113,op:=Op.fieldAddr 30 (Operand.tmp 112) 0,type:=0,pos := "build.go:81",after := #[{ on:=2,ground:=Ground.data }],guard:=none }:Oper)) (.pointer (some ⟨g,3,none⟩)) (by kernel_rfl) rfl rfl (λ_ _ _ h=>h) rfl (by intro w' hSw;have z3:=((Bx.fr HX4.out hSw (λe=>HS4.out.ne.1 e)).cell 3).trans rfl;have z1:=((Bx.fr HB4.out hSw HNE.out.2).cell 1).trans rfl;clear hSw;go_simp) hS ?_
     try simp only[Fl.ap]
     refine Fl.hpu 4 (o:=({ dst:=some 114,op:=Op.load 27 (Operand.tmp 113),type:=27,pos := "build.go:81",after := #[{ on:=3,ground:=Ground.data }],guard:=none }:Oper)) (.slice (some ⟨gb,0,none⟩) N cap) (by kernel_rfl) rfl rfl (λ_ _ _ h=>h) rfl (by intro w' hSw;have z3:=((Bx.fr HX4.out hSw (λe=>HS4.out.ne.1 e)).cell 3).trans rfl;have z1:=((Bx.fr HB4.out hSw HNE.out.2).cell 1).trans rfl;clear hSw;go_simp) hS ?_
     try simp only[Fl.ap]
     refine Fl.hpu 5 (o:=({ dst:=some 115,op:=Op.move (Operand.tmp 8),type:=3,pos := "build.go:81",after := #[],guard:=none }:Oper)) (.int .i64 (self:Int)) (by kernel_rfl) rfl rfl (λ_ _ _ h=>h) rfl (by intro w' hSw;have z3:=((Bx.fr HX4.out hSw (λe=>HS4.out.ne.1 e)).cell 3).trans rfl;have z1:=((Bx.fr HB4.out hSw HNE.out.2).cell 1).trans rfl;clear hSw;go_simp) hS ?_
     try simp only[Fl.ap]
     refine Fl.hpu 6 (o:=({ dst:=some 116,op:=Op.fieldAddr 160 (Operand.tmp 5) 1,type:=0,pos := "build.go:81",after := #[],guard:=none }:Oper)) (.pointer (some ⟨w.heap.size,1,none⟩)) (by kernel_rfl) rfl rfl (λ_ _ _ h=>h) rfl (by intro w' hSw;have z3:=((Bx.fr HX4.out hSw (λe=>HS4.out.ne.1 e)).cell 3).trans rfl;have z1:=((Bx.fr HB4.out hSw HNE.out.2).cell 1).trans rfl;clear hSw;go_simp) hS ?_
     try simp only[Fl.ap]
     refine Fl.hpu 7 (o:=({ dst:=some 117,op:=Op.load 3 (Operand.tmp 116),type:=3,pos := "build.go:81",after := #[{ on:=6,ground:=Ground.data }],guard:=none }:Oper)) (.int .i64 ha) (by kernel_rfl) rfl rfl (λ_ _ _ h=>h) rfl (by intro w' hSw;have z3:=((Bx.fr HX4.out hSw (λe=>HS4.out.ne.1 e)).cell 3).trans rfl;have z1:=((Bx.fr HB4.out hSw HNE.out.2).cell 1).trans rfl;clear hSw;go_simp) hS ?_
     try simp only[Fl.ap]
     refine Fl.hpu 8 (o:=({ dst:=some 118,op:=Op.indexAddr 27 (Operand.tmp 114) (Operand.tmp 115),type:=0,pos := "build.go:81",after := #[{ on:=4,ground:=Ground.data },{ on:=5,ground:=Ground.data },{ on:=0,ground:=Ground.phase },{ on:=1,ground:=Ground.phase },{ on:=2,ground:=Ground.phase },{ on:=3,ground:=Ground.phase },{ on:=4,ground:=Ground.phase },{ on:=5,ground:=Ground.phase },{ on:=6,ground:=Ground.phase },{ on:=7,ground:=Ground.phase }],guard:=none }:Oper)) (.pointer (some ⟨gb,self*5,none⟩)) (by kernel_rfl) rfl rfl (λ_ _ _ h=>h) rfl (by intro w' hSw;have z3:=((Bx.fr HX4.out hSw (λe=>HS4.out.ne.1 e)).cell 3).trans rfl;have z1:=((Bx.fr HB4.out hSw HNE.out.2).cell 1).trans rfl;clear hSw;go_simp) hS ?_
     try simp only[Fl.ap]
     refine Fl.hpu 9 (o:=({ dst:=some 119,op:=Op.fieldAddr 42 (Operand.tmp 118) 4,type:=0,pos := "build.go:81",after := #[{ on:=8,ground:=Ground.data },{ on:=0,ground:=Ground.phase },{ on:=1,ground:=Ground.phase },{ on:=2,ground:=Ground.phase },{ on:=3,ground:=Ground.phase },{ on:=4,ground:=Ground.phase },{ on:=5,ground:=Ground.phase },{ on:=6,ground:=Ground.phase },{ on:=7,ground:=Ground.phase }],guard:=none }:Oper)) (.pointer (some ⟨gb,self*5+4,none⟩)) (by kernel_rfl) rfl rfl (λ_ _ _ h=>h) rfl (by intro w' hSw;have z3:=((Bx.fr HX4.out hSw (λe=>HS4.out.ne.1 e)).cell 3).trans rfl;have z1:=((Bx.fr HB4.out hSw HNE.out.2).cell 1).trans rfl;clear hSw;go_simp) hS ?_
     try simp only[Fl.ap]
     refine Fl.h_oneK 10 ({ dst:=none,op:=Op.store 3 (Operand.tmp 119) (Operand.tmp 117),type:=0,pos := "build.go:81",after := #[{ on:=9,ground:=Ground.data },{ on:=7,ground:=Ground.data },{ on:=0,ground:=Ground.phase },{ on:=1,ground:=Ground.phase },{ on:=2,ground:=Ground.phase },{ on:=3,ground:=Ground.phase },{ on:=4,ground:=Ground.phase },{ on:=5,ground:=Ground.phase },{ on:=6,ground:=Ground.phase },{ on:=7,ground:=Ground.phase }],guard:=none }:Oper) rfl (by kernel_rfl) rfl (λK2 hK2 =>?_)
     have t4:=(hcb0.cell (self*5+4)).trans HCB.out.2
     have ft4:=hcb0.frozen (self*5+4)
     go_simp
     refine hK2.out _ _ (hS.set rfl _) (λhS2 =>?_)
     clear hK2 K2 t4 ft4
     replace hS:=hS2
     try simp only[Fl.ap]
     refine wpAnyH_done (by kernel_rfl) ?_ _
     clear hS
     go_wp2_with fail
     exact bodyPost_ret (v :=.int .i64 S2) (by simp[results,Tryz.f189,go_sem]) rfl (by rw[HFR.out];exact⟨rfl,HWW.out.trans hS2,(HRA.out _ hG0).1⟩)
    ·have hR':R p=false:=by simpa using hR
     rw[hR']at r4
     rw[if_neg hR]at HFR
     go_wp2_with fail
     exact bodyPost_ret (v :=.int .i64 S2) (by simp[results,Tryz.f189,go_sem]) rfl (by rw[HFR.out];exact⟨rfl,HWW.out,HGR4.out⟩)
end
end Go.Proofs.YtedkgofehbecmaaGreatDoor
