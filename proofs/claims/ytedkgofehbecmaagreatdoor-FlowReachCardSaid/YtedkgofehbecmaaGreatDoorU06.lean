/- PROVED here: parts N06 of the claim. No condition but those in each theorem's own head. -/
import Derived.Test.YtedkgofehbecmaaGreatDoorU05
import Derived.Test.YtedkgofehbecmaaGreatDoorU03
import Derived.WalkLawsBesides
namespace Go.Proofs.YtedkgofehbecmaaGreatDoor
open Go.Lib (hid)
open Go Go.RowKit
open Tr (Bx heap1 bt gen_world ret_int ret_bool cell_same)
def bs (l:List UInt8):ByteArray:=⟨l.toArray⟩
theorem bs_list (l:List UInt8):(bs l).data.toList=l:=by simp[bs]
def tcv (t:Tok):List Value:=[.int .i64 (t.k:Int),.int .i64 t.n,.int .i64 (t.p:Int),.string (bs t.s)]
def tokV (t:Tok):Value :=.agg #[.int .i64 (t.k:Int),.int .i64 t.n,.int .i64 (t.p:Int),.string (bs t.s)]
def Toks (w:World)(A:Option Addr)(ts:List Tok):Prop:=
 0<ts.length->∃b off,A=some ⟨b,off,none⟩/\b<w.heap.size/\∀j (hj:j<ts.length) i,i<4->w.cell? ⟨b,off+j*4+i,none⟩=(tcv ts[j])[i]?
theorem Toks.below {w w':World}{A:Option Addr}{ts:List Tok}(h:Toks w A ts)(hb:Below w.heap.size w w'):Toks w' A ts:=λh0=>by
 obtain⟨b,off,e,hl,hc⟩:=h h0
 exact⟨b,off,e,Nat.lt_of_lt_of_le hl hb.size,λj hj i hi=>(hb.cell (p:=⟨b,off+j*4+i,none⟩) hl).trans (hc j hj i hi)⟩
structure Px (w:World) (g:Nat) (A:Option Addr) (c:Nat) (ts:List Tok) (V:Value) (s:St):Prop where
 box:Bx w g 151 [.slice A ts.length c,.int .i64 (s.nx:Int),V,.int .i64 (s.op:Int),.int .i64 (s.mo:Int)]
 toks:Toks w A ts
 len:ts.length<=100000
 nx:s.nx<ts.length
 op:s.op<=100000
 mo:s.mo<=100000
 ne:∀a,A=some a->a.block≠g
theorem Px.below {w w':World}{g c:Nat}{A:Option Addr}{ts:List Tok}{V:Value}{s:St}(h:Px w g A c ts V s)(hb:Below w.heap.size w w'):Px w' g A c ts V s:=⟨h.box.below hb h.box.lt,h.toks.below hb,h.len,h.nx,h.op,h.mo,h.ne⟩
def VPost (v:Value)(w:World)(e:Ending)(w':World):Prop:=e = .returned v/\Below w.heap.size w w'
theorem bdrew {B:Nat}{a w:World}(h:Below B a w):Below B a w.drew:=⟨h.os,h.tape,h.output,h.size,h.block⟩
set_option maxRecDepth 100000 in
set_option maxHeartbeats 1500000 in
theorem token_any {w:World}{g c:Nat}{A:Option Addr}{ts:List Tok}{V:Value}{s:St}(h:Px w g A c ts V s):Calls Tryz.prog 176 #[.pointer (some ⟨g,0,none⟩)] w (VPost (tokV (tkn ts s)) w):=by
 obtain⟨b,off,rfl,hbl,hc⟩:=h.toks (Nat.lt_of_le_of_lt (Nat.zero_le _) h.nx)
 rw[tkn_eq h.nx]
 have k0:=hc s.nx h.nx 0 (by decide)
 have k1:=hc s.nx h.nx 1 (by decide)
 have k2:=hc s.nx h.nx 2 (by decide)
 have k3:=hc s.nx h.nx 3 (by decide)
 have hnl:(s.nx:Int)<(ts.length:Int):=by have:=h.nx;omega
 have hlen:=h.len
 have hx:=h.box
 generalize ts[s.nx]=t at *
 clear hc
 obtain⟨W,hW⟩:∃W,w.alloc (.cells #[.int .i64 0,.int .i64 0,.int .i64 0,.string ⟨#[]⟩] 186)=W:=⟨_,rfl⟩
 have hb:Below w.heap.size w W:=by rw[<- hW];exact heap1 _ _
 have hB:Bx W w.heap.size 186 [.int .i64 0,.int .i64 0,.int .i64 0,.string ⟨#[]⟩]:=by rw[<- hW];exact Bx.new w 186 _
 have d0:=((hx.below hb hx.lt).cell 0).trans rfl
 have d1:=((hx.below hb hx.lt).cell 1).trans rfl
 have k0:W.cell? ⟨b,off+s.nx*4+0,none⟩=some (.int .i64 (t.k:Int)):=(hb.cell (p:=⟨b,off+s.nx*4+0,none⟩) hbl).trans k0
 have k1:W.cell? ⟨b,off+s.nx*4+1,none⟩=some (.int .i64 t.n):=(hb.cell (p:=⟨b,off+s.nx*4+1,none⟩) hbl).trans k1
 have k2:W.cell? ⟨b,off+s.nx*4+2,none⟩=some (.int .i64 (t.p:Int)):=(hb.cell (p:=⟨b,off+s.nx*4+2,none⟩) hbl).trans k2
 have k3:W.cell? ⟨b,off+s.nx*4+3,none⟩=some (.string (bs t.s)):=(hb.cell (p:=⟨b,off+s.nx*4+3,none⟩) hbl).trans k3
 rw[Nat.add_zero]at k0
 have e0:=(hB.cell 0).trans rfl
 have e1:=(hB.cell 1).trans rfl
 have e2:=(hB.cell 2).trans rfl
 have e3:=(hB.cell 3).trans rfl
 have f0:=hB.frozen 0
 have f1:=hB.frozen 1
 have f2:=hB.frozen 2
 have f3:=hB.frozen 3
 have hE:=(((hB.set_ 0 (.int .i64 (t.k:Int))).set_ 1 (.int .i64 t.n)).set_ 2 (.int .i64 (t.p:Int))).set_ 3 (.string (bs t.s))
 have hbE:=(((hb.setCell (p:=⟨w.heap.size,0,none⟩) (Nat.le_refl _) (.int .i64 (t.k:Int))).setCell (p:=⟨w.heap.size,1,none⟩) (Nat.le_refl _) (.int .i64 t.n)).setCell (p:=⟨w.heap.size,2,none⟩) (Nat.le_refl _) (.int .i64 (t.p:Int))).setCell (p:=⟨w.heap.size,3,none⟩) (Nat.le_refl _) (.string (bs t.s))
 have HH:=hid (And.intro hE hbE)
 obtain⟨i,hi⟩:∃i,i=s.nx:=⟨_,rfl⟩
 obtain⟨n,hn⟩:∃n,n=ts.length:=⟨_,rfl⟩
 rw[<- hi]at d1 k0 k1 k2 k3 hnl
 rw[<- hn]at d0 hnl hlen
 clear hE hbE hB hb hx h hi hn
 go_enter Tryz.func176,Tryz.ntmps176
 go_wp2
 go_still_tail 10,(by kernel_rfl)
 change wpList _ _ _ _ _ _
 go_wp2
 obtain⟨hE,hbE⟩:=HH.out
 have z0:=hE.cell 0
 have z1:=hE.cell 1
 have z2:=hE.cell 2
 have z3:=hE.cell 3
 simp only[List.set_cons_zero,List.set_cons_succ,List.getElem?_cons_zero,List.getElem?_cons_succ]at z0 z1 z2 z3
 generalize (((W.setCell ⟨w.heap.size,0,none⟩ (.int .i64 (t.k:Int))).setCell ⟨w.heap.size,1,none⟩ (.int .i64 t.n)).setCell ⟨w.heap.size,2,none⟩ (.int .i64 (t.p:Int))).setCell ⟨w.heap.size,3,none⟩ (.string (bs t.s))=W3 at *
 exact bodyPost_ret (v:=tokV t) (by simp[results,Tryz.f176,go_sem,z0,z1,z2,z3,tokV]) rfl ⟨rfl,bdrew hbE⟩
theorem field36_0 (t:Tok)(w:World):(Instr.field 186 (tokV t) 0).run Tryz.prog w = .ok (.int .i64 (t.k:Int)) w:=by kernel_rfl
theorem field36_2 (t:Tok)(w:World):(Instr.field 186 (tokV t) 2).run Tryz.prog w = .ok (.int .i64 (t.p:Int)) w:=by kernel_rfl
theorem field36_3 (t:Tok)(w:World):(Instr.field 186 (tokV t) 3).run Tryz.prog w = .ok (.string (bs t.s)) w:=by kernel_rfl
theorem bs_beq (a b:List UInt8):((bs a).toList==(bs b).toList)=(a==b):=by rw[ByteArray.toList_eq,ByteArray.toList_eq,bs_list,bs_list]
set_option maxRecDepth 100000 in
set_option maxHeartbeats 1500000 in
theorem sees_any {w:World}{g c:Nat}{A:Option Addr}{ts:List Tok}{V:Value}{s:St}(x:List UInt8)(h:Px w g A c ts V s):Calls Tryz.prog 128 #[.pointer (some ⟨g,0,none⟩),.string (bs x)] w (VPost (.bool (sees ts x s)) w):=by
 have HC:=hid (token_any h)
 unfold sees
 generalize tkn ts s=t at *
 clear h
 have hf:=field36_3 t
 have he:=bs_beq t.s x
 generalize hv:tokV t=v at *
 generalize bs t.s=a at *
 generalize bs x=b at *
 generalize (t.s==x)=r at *
 clear hv
 go_enter Tryz.func128,Tryz.ntmps128
 go_wp2_with (go_at_call 176;refine HC.out.mono ?_;rintro e w1 ⟨rfl,hb1⟩)
 all_goals
  go_ret
  first
  |exact⟨rfl,hb1⟩
  |exact⟨ret_bool (by simp_all),hb1⟩
set_option maxRecDepth 100000 in
set_option maxHeartbeats 1500000 in
theorem refuse_any {w:World}{g c:Nat}{A:Option Addr}{ts:List Tok}{V:Value}{s:St}(er:Int)(h:Px w g A c ts V s):Calls Tryz.prog 183 #[.pointer (some ⟨g,0,none⟩),.int .i64 er] w (VPost (.agg #[.int .i64 ((tkn ts s).p:Int),.int .i64 er]) w):=by
 obtain⟨W,hW⟩:∃W,w.alloc (.cells #[.int .i64 0,.int .i64 0] 109)=W:=⟨_,rfl⟩
 have hb:Below w.heap.size w W:=by rw[<- hW];exact heap1 _ _
 have hB:Bx W w.heap.size 109 [.int .i64 0,.int .i64 0]:=by rw[<- hW];exact Bx.new w 109 _
 have HC:=hid (token_any (h.below hb))
 generalize tkn ts s=t at *
 clear h
 have hf:=field36_2 t
 generalize hv:tokV t=v at *
 generalize (t.p:Int)=pp at *
 clear hv
 go_enter Tryz.func183,Tryz.ntmps183
 go_wp2_with (go_at_call 176;refine HC.out.mono ?_)
 rintro e w1 ⟨rfl,hb1⟩
 have hB1:=hB.below hb1 hB.lt
 have hbw:=bt hb hb1
 clear hB hb hb1 hW HC
 have e0:=(hB1.cell 0).trans rfl
 have e1:=(hB1.cell 1).trans rfl
 have f0:=hB1.frozen 0
 have f1:=hB1.frozen 1
 have hE:=(hB1.set_ 0 (.int .i64 pp)).set_ 1 (.int .i64 er)
 have hbE:=(hbw.setCell (p:=⟨w.heap.size,0,none⟩) (Nat.le_refl _) (.int .i64 pp)).setCell (p:=⟨w.heap.size,1,none⟩) (Nat.le_refl _) (.int .i64 er)
 have HH:=hid (And.intro hE hbE)
 clear hE hbE hB1 hbw
 go_wp2
 obtain⟨hE,hbE⟩:=HH.out
 have z0:=hE.cell 0
 have z1:=hE.cell 1
 simp only[List.set_cons_zero,List.set_cons_succ,List.getElem?_cons_zero,List.getElem?_cons_succ]at z0 z1
 generalize (w1.setCell ⟨w.heap.size,0,none⟩ (.int .i64 pp)).setCell ⟨w.heap.size,1,none⟩ (.int .i64 er)=W3 at *
 exact bodyPost_ret (v :=.agg #[.int .i64 pp,.int .i64 er]) (by simp[results,Tryz.f183,go_sem,z0,z1]) rfl ⟨rfl,hbE⟩
structure Fr (E:Nat->Prop) (w w':World):Prop where
 os:w'.os=w.os
 tape:w'.tape=w.tape
 output:w'.output=w.output
 size:w.heap.size<=w'.heap.size
 block:∀b,b<w.heap.size->¬E b->w'.heap[b]?=w.heap[b]?
theorem Fr.refl (E:Nat->Prop)(w:World):Fr E w w:=⟨rfl,rfl,rfl,Nat.le_refl _,λ_ _ _=>rfl⟩
theorem Fr.of {E:Nat->Prop}{w w':World}(h:Below w.heap.size w w'):Fr E w w':=⟨h.os,h.tape,h.output,h.size,λb hb _=>h.block b hb⟩
theorem Fr.trans {E:Nat->Prop}{a b c:World}(h:Fr E a b)(k:Fr E b c):Fr E a c:=⟨k.os.trans h.os,k.tape.trans h.tape,k.output.trans h.output,Nat.le_trans h.size k.size,λi hi hE=>(k.block i (Nat.lt_of_lt_of_le hi h.size) hE).trans (h.block i hi hE)⟩
theorem Fr.set {E:Nat->Prop}{a w:World}(h:Fr E a w){g i:Nat}(hg:E g)(u:Value):Fr E a (w.setCell ⟨g,i,none⟩ u):=h.trans ⟨rfl,rfl,rfl,by rw[World.size_setCell];exact Nat.le_refl _,λb _ hE=>heap_setCell_other w _ b u (λe=>hE (e▸hg))⟩
theorem Fr.below {E:Nat->Prop}{a b:World}(h:Fr E a b){B:Nat}(hE:∀i,E i->B<=i)(hB:B<=a.heap.size):Below B a b:=⟨h.os,h.tape,h.output,h.size,λi hi=>h.block i (by omega) (λe=>by have:=hE i e;omega)⟩
theorem Bx.fr {E:Nat->Prop}{w w':World}{b:Nat}{t:TypeId}{l:List Value}(h:Bx w b t l)(k:Fr E w w')(hb:¬E b):Bx w' b t l:=(k.block b h.lt hb).trans h
def refV (p:Nat)(e:Int):Value :=.iface 109 (.agg #[.int .i64 (p:Int),.int .i64 e])
def PPost (g:Nat)(A:Option Addr)(c:Nat)(ts:List Tok)(V:Value)(v:Value)(s':St)(w:World)(e:Ending)(w':World):Prop:=e = .returned v/\Px w' g A c ts V s'/\Fr (· = g) w w'
def NPost (p:Nat)(er:Int)(w:World)(e:Ending)(w':World):Prop:=e = .panicked [{ v:=refV p er,recovered:=false }]/\Below w.heap.size w w'
theorem Fr.new {E:Nat->Prop}{a w:World}(h:Fr E a w){k i:Nat}(hk:a.heap.size<=k)(u:Value):Fr E a (w.setCell ⟨k,i,none⟩ u):=⟨h.os,h.tape,h.output,by rw[World.size_setCell];exact h.size,λb hb hE=>(heap_setCell_other w _ b u (by show b≠k;omega)).trans (h.block b hb hE)⟩
theorem Toks.fr {E:Nat->Prop}{w w':World}{A:Option Addr}{ts:List Tok}(h:Toks w A ts)(k:Fr E w w')(hE:∀a,A=some a->¬E a.block):Toks w' A ts:=λh0=>by
 obtain⟨b,off,e,hl,hc⟩:=h h0
 exact⟨b,off,e,Nat.lt_of_lt_of_le hl k.size,λj hj i hi=>(cell_same (k.block b hl (hE _ e)) _).trans (hc j hj i hi)⟩
theorem Px.to {w w':World}{g c:Nat}{A:Option Addr}{ts:List Tok}{V V':Value}{s s':St}(h:Px w g A c ts V s)(k:Fr (λb=>b=g) w w')(hb:Bx w' g 151 [.slice A ts.length c,.int .i64 (s'.nx:Int),V',.int .i64 (s'.op:Int),.int .i64 (s'.mo:Int)])(hn:s'.nx<ts.length)(ho:s'.op<=100000)(hm:s'.mo<=100000):Px w' g A c ts V' s':=
 ⟨hb,h.toks.fr k (λa ha=>h.ne a ha),h.len,hn,ho,hm,h.ne⟩
set_option maxRecDepth 100000 in
set_option maxHeartbeats 1500000 in
theorem take_any {w:World}{g c:Nat}{A:Option Addr}{ts:List Tok}{V:Value}{s:St}(h:Px w g A c ts V s)(hn:s.nx+1<ts.length):Calls Tryz.prog 173 #[.pointer (some ⟨g,0,none⟩)] w (PPost g A c ts V (tokV (tkn ts s)) (takeS s) w):=by
 obtain⟨W,hW⟩:∃W,w.alloc (.cells #[.int .i64 0,.int .i64 0,.int .i64 0,.string ⟨#[]⟩] 186)=W:=⟨_,rfl⟩
 have hb:Below w.heap.size w W:=by rw[<- hW];exact heap1 _ _
 have hB:Bx W w.heap.size 186 [.int .i64 0,.int .i64 0,.int .i64 0,.string ⟨#[]⟩]:=by rw[<- hW];exact Bx.new w 186 _
 have hgw:=h.box.lt
 have hX:=h.below hb
 have HC:=hid (token_any hX)
 have H0:=hid h
 generalize tkn ts s=t at *
 clear h
 unfold tokV at *
 have hlen:=hX.len
 go_enter Tryz.func173,Tryz.ntmps173
 go_wp2_with (go_at_call 176;refine HC.out.mono ?_)
 rintro e w1 ⟨rfl,hb1⟩
 have hB1:=hB.below hb1 hB.lt
 have hX1:=hX.box.below hb1 hX.box.lt
 have hbw:=bt hb hb1
 clear hB hX hb hb1 hW HC
 obtain⟨W2,hW2⟩:∃W2,w1.alloc (.cells #[.int .i64 (t.k:Int),.int .i64 t.n,.int .i64 (t.p:Int),.string (bs t.s)] 186)=W2:=⟨_,rfl⟩
 have hb2:Below w1.heap.size w1 W2:=by rw[<- hW2];exact heap1 _ _
 have hT:Bx W2 w1.heap.size 186 [.int .i64 (t.k:Int),.int .i64 t.n,.int .i64 (t.p:Int),.string (bs t.s)]:=by rw[<- hW2];exact Bx.new w1 186 _
 have hB2:=hB1.below hb2 hB1.lt
 have hX2:=hX1.below hb2 hX1.lt
 have hbw2:=bt hbw hb2
 have hz1:=hB1.lt
 have d1:=(hX2.cell 1).trans rfl
 have fd1:=hX2.frozen 1
 have hne1:w1.heap.size≠g:=by have:=hX1.lt;omega
 have hne2:w.heap.size≠g:=by omega
 have hT3:=hT.far (p:=⟨g,1,none⟩) hne1 (.int .i64 ((s.nx:Int)+1))
 have hB3:=hB2.far (p:=⟨g,1,none⟩) hne2 (.int .i64 ((s.nx:Int)+1))
 have hX3:=hX2.set_ 1 (.int .i64 ((s.nx:Int)+1))
 simp only[List.set_cons_zero,List.set_cons_succ]at hX3
 have hF3:Fr (· = g) w (W2.setCell ⟨g,1,none⟩ (.int .i64 ((s.nx:Int)+1))):=Fr.set (E:=λx=>x=g) (Fr.of hbw2) (g:=g) rfl _
 have HH:=hid (And.intro hT3 (And.intro hB3 (And.intro hX3 hF3)))
 clear hX1 hX2 hB1 hB2 hT hbw hbw2 hb2 hT3 hB3 hX3 hF3
 go_upto_region 3 with(fail)
 obtain⟨hT3,hB3,hX3,hF3⟩:=HH.out
 clear HH d1 fd1 hW2
 generalize W2.setCell ⟨g,1,none⟩ (.int .i64 ((s.nx:Int)+1))=W3 at *
 have t0:=(hT3.cell 0).trans rfl
 have t1:=(hT3.cell 1).trans rfl
 have t2:=(hT3.cell 2).trans rfl
 have t3:=(hT3.cell 3).trans rfl
 have b0:=(hB3.cell 0).trans rfl
 have b1:=(hB3.cell 1).trans rfl
 have b2:=(hB3.cell 2).trans rfl
 have b3:=(hB3.cell 3).trans rfl
 have f0:=hB3.frozen 0
 have f1:=hB3.frozen 1
 have f2:=hB3.frozen 2
 have f3:=hB3.frozen 3
 have hE:=(((hB3.set_ 0 (.int .i64 (t.k:Int))).set_ 1 (.int .i64 t.n)).set_ 2 (.int .i64 (t.p:Int))).set_ 3 (.string (bs t.s))
 have hXE:=(((hX3.far (p:=⟨w.heap.size,0,none⟩) hne2.symm (.int .i64 (t.k:Int))).far (p:=⟨w.heap.size,1,none⟩) hne2.symm (.int .i64 t.n)).far (p:=⟨w.heap.size,2,none⟩) hne2.symm (.int .i64 (t.p:Int))).far (p:=⟨w.heap.size,3,none⟩) hne2.symm (.string (bs t.s))
 have hFE:=(((hF3.new (k:=w.heap.size) (i:=0) (Nat.le_refl _) (.int .i64 (t.k:Int))).new (k:=w.heap.size) (i:=1) (Nat.le_refl _) (.int .i64 t.n)).new (k:=w.heap.size) (i:=2) (Nat.le_refl _) (.int .i64 (t.p:Int))).new (k:=w.heap.size) (i:=3) (Nat.le_refl _) (.string (bs t.s))
 have HE:=hid (And.intro hE (And.intro hXE hFE))
 clear hE hXE hFE hT3 hB3 hX3 hF3
 go_wp2
 obtain⟨hE,hXE,hFE⟩:=HE.out
 have z0:=hE.cell 0
 have z1:=hE.cell 1
 have z2:=hE.cell 2
 have z3:=hE.cell 3
 simp only[List.set_cons_zero,List.set_cons_succ,List.getElem?_cons_zero,List.getElem?_cons_succ]at z0 z1 z2 z3
 generalize (((W3.setCell ⟨w.heap.size,0,none⟩ (.int .i64 (t.k:Int))).setCell ⟨w.heap.size,1,none⟩ (.int .i64 t.n)).setCell ⟨w.heap.size,2,none⟩ (.int .i64 (t.p:Int))).setCell ⟨w.heap.size,3,none⟩ (.string (bs t.s))=W4 at *
 refine bodyPost_ret (v :=.agg #[.int .i64 (t.k:Int),.int .i64 t.n,.int .i64 (t.p:Int),.string (bs t.s)]) (by simp[results,Tryz.f173,go_sem,z0,z1,z2,z3]) rfl ⟨rfl,H0.out.to hFE ?_ hn H0.out.op H0.out.mo,hFE⟩
 have e:((s.nx:Int)+1)=((takeS s).nx:Int):=by show _=((s.nx+1:Nat):Int);omega
 rw[e]at hXE
 exact hXE
end Go.Proofs.YtedkgofehbecmaaGreatDoor
namespace Go.Proofs.YtedkgofehbecmaaGreatDoor
open Go.Lib (hid)
section
open Go Go.RowKit
open Tr (Bx heap1 bt gen_world ret_int ret_bool cell_same)
set_option maxRecDepth 100000 in
set_option maxHeartbeats 1500000 in
theorem expect_no {w:World}{g c:Nat}{A:Option Addr}{ts:List Tok}{V:Value}{s:St}(x:List UInt8)(h:Px w g A c ts V s)(hs:sees ts x s=false):Calls Tryz.prog 175 #[.pointer (some ⟨g,0,none⟩),.string (bs x)] w (NPost (tkn ts s).p 2 w):=by
 obtain⟨W,hW⟩:∃W,w.alloc (.cells #[.int .i64 0,.int .i64 0,.int .i64 0,.string ⟨#[]⟩] 186)=W:=⟨_,rfl⟩
 have hb:Below w.heap.size w W:=by rw[<- hW];exact heap1 _ _
 have hX:=h.below hb
 have HC:=hid (sees_any x hX)
 rw[hs]at HC
 have HR:=hid (λw' (k:Below W.heap.size W w')=>refuse_any 2 (hX.below k))
 generalize (tkn ts s).p=pp at *
 clear h hs hX
 go_enter Tryz.func175,Tryz.ntmps175
 go_wp2_with (first|(go_at_call 128;refine HC.out.mono ?_;rintro e w1 ⟨rfl,hb1⟩) |(go_at_call 183;refine(HR.out _ hb1).mono ?_;rintro e w2 ⟨rfl,hb2⟩))
 exact⟨rfl,rfl,bt (bt hb hb1) hb2⟩
set_option maxRecDepth 100000 in
set_option maxHeartbeats 1500000 in
theorem expect_yes {w:World}{g c:Nat}{A:Option Addr}{ts:List Tok}{V:Value}{s:St}(x:List UInt8)(h:Px w g A c ts V s)(hs:sees ts x s=true)(hn:s.nx+1<ts.length):Calls Tryz.prog 175 #[.pointer (some ⟨g,0,none⟩),.string (bs x)] w (PPost g A c ts V (tokV (tkn ts s)) (takeS s) w):=by
 obtain⟨W,hW⟩:∃W,w.alloc (.cells #[.int .i64 0,.int .i64 0,.int .i64 0,.string ⟨#[]⟩] 186)=W:=⟨_,rfl⟩
 have hb:Below w.heap.size w W:=by rw[<- hW];exact heap1 _ _
 have hB:Bx W w.heap.size 186 [.int .i64 0,.int .i64 0,.int .i64 0,.string ⟨#[]⟩]:=by rw[<- hW];exact Bx.new w 186 _
 have hX:=h.below hb
 have hne2:w.heap.size≠g:=by have:=h.box.lt;omega
 have HC:=hid (sees_any x hX)
 rw[hs]at HC
 have HT:=hid (λw' (k:Below W.heap.size W w')=>take_any (hX.below k) hn)
 have H0:=hid h
 generalize tkn ts s=t at *
 clear h hs hX
 unfold tokV at *
 go_enter Tryz.func175,Tryz.ntmps175
 go_wp2_with (go_at_call 128;refine HC.out.mono ?_;rintro e w1 ⟨rfl,hb1⟩)
 go_wp2_with (go_at_call 173;refine(HT.out _ hb1).mono ?_)
 rintro e W3 ⟨rfl,hX3,hF1⟩
 have hB3:=Bx.fr (hB.below hb1 hB.lt) hF1 hne2
 have hF3:Fr (· = g) w W3:=(Fr.of (bt hb hb1)).trans hF1
 clear hB hF1 hb hb1 hW HC HT
 have b0:=(hB3.cell 0).trans rfl
 have b1:=(hB3.cell 1).trans rfl
 have b2:=(hB3.cell 2).trans rfl
 have b3:=(hB3.cell 3).trans rfl
 have f0:=hB3.frozen 0
 have f1:=hB3.frozen 1
 have f2:=hB3.frozen 2
 have f3:=hB3.frozen 3
 have hE:=(((hB3.set_ 0 (.int .i64 (t.k:Int))).set_ 1 (.int .i64 t.n)).set_ 2 (.int .i64 (t.p:Int))).set_ 3 (.string (bs t.s))
 have hXE:=(((hX3.box.far (p:=⟨w.heap.size,0,none⟩) hne2.symm (.int .i64 (t.k:Int))).far (p:=⟨w.heap.size,1,none⟩) hne2.symm (.int .i64 t.n)).far (p:=⟨w.heap.size,2,none⟩) hne2.symm (.int .i64 (t.p:Int))).far (p:=⟨w.heap.size,3,none⟩) hne2.symm (.string (bs t.s))
 have hFE:=(((hF3.new (k:=w.heap.size) (i:=0) (Nat.le_refl _) (.int .i64 (t.k:Int))).new (k:=w.heap.size) (i:=1) (Nat.le_refl _) (.int .i64 t.n)).new (k:=w.heap.size) (i:=2) (Nat.le_refl _) (.int .i64 (t.p:Int))).new (k:=w.heap.size) (i:=3) (Nat.le_refl _) (.string (bs t.s))
 have HE:=hid (And.intro hE (And.intro hXE hFE))
 have hb3:=And.intro hX3.nx (And.intro hX3.op hX3.mo)
 clear hE hXE hFE hB3 hX3 hF3
 go_wp2
 obtain⟨hE,hXE,hFE⟩:=HE.out
 have z0:=hE.cell 0
 have z1:=hE.cell 1
 have z2:=hE.cell 2
 have z3:=hE.cell 3
 simp only[List.set_cons_zero,List.set_cons_succ,List.getElem?_cons_zero,List.getElem?_cons_succ]at z0 z1 z2 z3
 generalize (((W3.setCell ⟨w.heap.size,0,none⟩ (.int .i64 (t.k:Int))).setCell ⟨w.heap.size,1,none⟩ (.int .i64 t.n)).setCell ⟨w.heap.size,2,none⟩ (.int .i64 (t.p:Int))).setCell ⟨w.heap.size,3,none⟩ (.string (bs t.s))=W4 at *
 exact bodyPost_ret (v :=.agg #[.int .i64 (t.k:Int),.int .i64 t.n,.int .i64 (t.p:Int),.string (bs t.s)]) (by simp[results,Tryz.f175,go_sem,z0,z1,z2,z3]) rfl ⟨rfl,H0.out.to hFE hXE hb3.1 hb3.2.1 hb3.2.2,hFE⟩
set_option maxRecDepth 100000 in
set_option maxHeartbeats 1500000 in
theorem name_no {w:World}{g c:Nat}{A:Option Addr}{ts:List Tok}{V:Value}{s:St}(h:Px w g A c ts V s)(hs:(tkn ts s).k≠1):Calls Tryz.prog 177 #[.pointer (some ⟨g,0,none⟩)] w (NPost (tkn ts s).p 2 w):=by
 obtain⟨W,hW⟩:∃W,w.alloc (.cells #[.int .i64 0,.int .i64 0,.int .i64 0,.string ⟨#[]⟩] 186)=W:=⟨_,rfl⟩
 have hb:Below w.heap.size w W:=by rw[<- hW];exact heap1 _ _
 have hX:=h.below hb
 have HC:=hid (token_any hX)
 have HR:=hid (λw' (k:Below W.heap.size W w')=>refuse_any 2 (hX.below k))
 have hf:=field36_0 (tkn ts s)
 generalize hv:tokV (tkn ts s)=v at *
 have q1:(((tkn ts s).k:Int) != 1)=true:=by rw[bne_iff_ne];omega
 generalize ((tkn ts s).k:Int)=kk at *
 generalize (tkn ts s).p=pp at *
 clear h hs hX hv
 go_enter Tryz.func177,Tryz.ntmps177
 go_wp2_with (first|(go_at_call 176;refine HC.out.mono ?_;rintro e w1 ⟨rfl,hb1⟩) |(go_at_call 183;refine(HR.out _ hb1).mono ?_;rintro e w2 ⟨rfl,hb2⟩))
 exact⟨rfl,rfl,bt (bt hb hb1) hb2⟩
set_option maxRecDepth 100000 in
set_option maxHeartbeats 1500000 in
theorem name_yes {w:World}{g c:Nat}{A:Option Addr}{ts:List Tok}{V:Value}{s:St}(h:Px w g A c ts V s)(hs:(tkn ts s).k=1)(hn:s.nx+1<ts.length):Calls Tryz.prog 177 #[.pointer (some ⟨g,0,none⟩)] w (PPost g A c ts V (tokV (tkn ts s)) (takeS s) w):=by
 obtain⟨W,hW⟩:∃W,w.alloc (.cells #[.int .i64 0,.int .i64 0,.int .i64 0,.string ⟨#[]⟩] 186)=W:=⟨_,rfl⟩
 have hb:Below w.heap.size w W:=by rw[<- hW];exact heap1 _ _
 have hB:Bx W w.heap.size 186 [.int .i64 0,.int .i64 0,.int .i64 0,.string ⟨#[]⟩]:=by rw[<- hW];exact Bx.new w 186 _
 have hX:=h.below hb
 have hne2:w.heap.size≠g:=by have:=h.box.lt;omega
 have HC:=hid (token_any hX)
 have HT:=hid (λw' (k:Below W.heap.size W w')=>take_any (hX.below k) hn)
 have H0:=hid h
 have hf:=field36_0 (tkn ts s)
 rw[hs]at hf
 generalize tkn ts s=t at *
 clear h hs hX
 unfold tokV at HT |-
 generalize hv:tokV t=v at hf HC
 clear hv
 go_enter Tryz.func177,Tryz.ntmps177
 go_wp2_with (go_at_call 176;refine HC.out.mono ?_;rintro e w1 ⟨rfl,hb1⟩)
 go_wp2_with (go_at_call 173;refine(HT.out _ hb1).mono ?_)
 rintro e W3 ⟨rfl,hX3,hF1⟩
 have hB3:=Bx.fr (hB.below hb1 hB.lt) hF1 hne2
 have hF3:Fr (· = g) w W3:=(Fr.of (bt hb hb1)).trans hF1
 clear hB hF1 hb hb1 hW HC HT hf
 have b0:=(hB3.cell 0).trans rfl
 have b1:=(hB3.cell 1).trans rfl
 have b2:=(hB3.cell 2).trans rfl
 have b3:=(hB3.cell 3).trans rfl
 have f0:=hB3.frozen 0
 have f1:=hB3.frozen 1
 have f2:=hB3.frozen 2
 have f3:=hB3.frozen 3
 have hE:=(((hB3.set_ 0 (.int .i64 (t.k:Int))).set_ 1 (.int .i64 t.n)).set_ 2 (.int .i64 (t.p:Int))).set_ 3 (.string (bs t.s))
 have hXE:=(((hX3.box.far (p:=⟨w.heap.size,0,none⟩) hne2.symm (.int .i64 (t.k:Int))).far (p:=⟨w.heap.size,1,none⟩) hne2.symm (.int .i64 t.n)).far (p:=⟨w.heap.size,2,none⟩) hne2.symm (.int .i64 (t.p:Int))).far (p:=⟨w.heap.size,3,none⟩) hne2.symm (.string (bs t.s))
 have hFE:=(((hF3.new (k:=w.heap.size) (i:=0) (Nat.le_refl _) (.int .i64 (t.k:Int))).new (k:=w.heap.size) (i:=1) (Nat.le_refl _) (.int .i64 t.n)).new (k:=w.heap.size) (i:=2) (Nat.le_refl _) (.int .i64 (t.p:Int))).new (k:=w.heap.size) (i:=3) (Nat.le_refl _) (.string (bs t.s))
 have HE:=hid (And.intro hE (And.intro hXE hFE))
 have hb3:=And.intro hX3.nx (And.intro hX3.op hX3.mo)
 clear hE hXE hFE hB3 hX3 hF3
 go_wp2
 obtain⟨hE,hXE,hFE⟩:=HE.out
 have z0:=hE.cell 0
 have z1:=hE.cell 1
 have z2:=hE.cell 2
 have z3:=hE.cell 3
 simp only[List.set_cons_zero,List.set_cons_succ,List.getElem?_cons_zero,List.getElem?_cons_succ]at z0 z1 z2 z3
 generalize (((W3.setCell ⟨w.heap.size,0,none⟩ (.int .i64 (t.k:Int))).setCell ⟨w.heap.size,1,none⟩ (.int .i64 t.n)).setCell ⟨w.heap.size,2,none⟩ (.int .i64 (t.p:Int))).setCell ⟨w.heap.size,3,none⟩ (.string (bs t.s))=W4 at *
 exact bodyPost_ret (v :=.agg #[.int .i64 (t.k:Int),.int .i64 t.n,.int .i64 (t.p:Int),.string (bs t.s)]) (by simp[results,Tryz.f177,go_sem,z0,z1,z2,z3]) rfl ⟨rfl,H0.out.to hFE hXE hb3.1 hb3.2.1 hb3.2.2,hFE⟩
set_option maxRecDepth 100000 in
set_option maxHeartbeats 1500000 in
theorem end_no {w:World}{g c:Nat}{A:Option Addr}{ts:List Tok}{V:Value}{s:St}(h:Px w g A c ts V s)(hs:(tkn ts s).k≠5):Calls Tryz.prog 130 #[.pointer (some ⟨g,0,none⟩)] w (NPost (tkn ts s).p 2 w):=by
 have HC:=hid (token_any h)
 have HR:=hid (λw' (k:Below w.heap.size w w')=>refuse_any 2 (h.below k))
 have hf:=field36_0 (tkn ts s)
 generalize hv:tokV (tkn ts s)=v at *
 have q1:(((tkn ts s).k:Int) != 5)=true:=by rw[bne_iff_ne];omega
 generalize ((tkn ts s).k:Int)=kk at *
 generalize (tkn ts s).p=pp at *
 clear h hs hv
 go_enter Tryz.func130,Tryz.ntmps130
 go_wp2_with (first|(go_at_call 176;refine HC.out.mono ?_;rintro e w1 ⟨rfl,hb1⟩) |(go_at_call 183;refine(HR.out _ hb1).mono ?_;rintro e w2 ⟨rfl,hb2⟩))
 exact⟨rfl,rfl,bt hb1 hb2⟩
set_option maxRecDepth 100000 in
set_option maxHeartbeats 1500000 in
theorem end_yes {w:World}{g c:Nat}{A:Option Addr}{ts:List Tok}{V:Value}{s:St}(h:Px w g A c ts V s)(hs:(tkn ts s).k=5):Calls Tryz.prog 130 #[.pointer (some ⟨g,0,none⟩)] w (VPost (.tuple #[]) w):=by
 have HC:=hid (token_any h)
 have hf:=field36_0 (tkn ts s)
 rw[hs]at hf
 generalize tokV (tkn ts s)=v at *
 clear h hs
 go_enter Tryz.func130,Tryz.ntmps130
 go_wp2_with (go_at_call 176;refine HC.out.mono ?_;rintro e w1 ⟨rfl,hb1⟩)
 go_end0
 exact⟨rfl,hb1⟩
end
section
open Go Go.RowKit
open Tr (Bx heap1 bt gen_world ret_int ret_bool cell_same)
set_option maxRecDepth 100000 in
set_option maxHeartbeats 1500000 in
theorem begin_deep {w:World}{g c:Nat}{A:Option Addr}{ts:List Tok}{V:Value}{s:St}(x:List UInt8)(h:Px w g A c ts V s)(hs:sees ts x s=true)(ho:s.op=40):Calls Tryz.prog 181 #[.pointer (some ⟨g,0,none⟩),.string (bs x)] w (NPost (tkn ts s).p 6 w):=by
 obtain⟨W,hW⟩:∃W,w.alloc (.cells #[.int .i64 0,.int .i64 0,.int .i64 0,.string ⟨#[]⟩] 186)=W:=⟨_,rfl⟩
 have hb:Below w.heap.size w W:=by rw[<- hW];exact heap1 _ _
 have hX:=h.below hb
 have HC:=hid (sees_any x hX)
 rw[hs]at HC
 have HR:=hid (λw' (k:Below W.heap.size W w')=>refuse_any 6 (hX.below k))
 have HX:=hid hX
 generalize (tkn ts s).p=pp at *
 clear h hs hX
 go_enter Tryz.func181,Tryz.ntmps181
 go_wp2_with (go_at_call 128;refine HC.out.mono ?_)
 rintro e w1 ⟨rfl,hb1⟩
 have d3:=((HX.out.below hb1).box.cell 3).trans rfl
 rw[ho]at d3
 clear HC HX ho
 go_wp2_with (go_at_call 183;refine(HR.out _ hb1).mono ?_;rintro e w2 ⟨rfl,hb2⟩)
 exact⟨rfl,rfl,bt (bt hb hb1) hb2⟩
set_option maxRecDepth 100000 in
set_option maxHeartbeats 1500000 in
theorem begin_no {w:World}{g c:Nat}{A:Option Addr}{ts:List Tok}{V:Value}{s:St}(x:List UInt8)(h:Px w g A c ts V s)(hs:sees ts x s=false):Calls Tryz.prog 181 #[.pointer (some ⟨g,0,none⟩),.string (bs x)] w (NPost (tkn ts s).p 2 w):=by
 obtain⟨W,hW⟩:∃W,w.alloc (.cells #[.int .i64 0,.int .i64 0,.int .i64 0,.string ⟨#[]⟩] 186)=W:=⟨_,rfl⟩
 have hb:Below w.heap.size w W:=by rw[<- hW];exact heap1 _ _
 have hX:=h.below hb
 have HC:=hid (sees_any x hX)
 rw[hs]at HC
 have HR:=hid (λw' (k:Below W.heap.size W w')=>expect_no x (hX.below k) hs)
 generalize (tkn ts s).p=pp at *
 clear h hs hX
 go_enter Tryz.func181,Tryz.ntmps181
 go_wp2_with (first|(go_at_call 128;refine HC.out.mono ?_;rintro e w1 ⟨rfl,hb1⟩) |(go_at_call 175;refine(HR.out _ hb1).mono ?_;rintro e w2 ⟨rfl,hb2⟩))
 exact⟨rfl,rfl,bt (bt hb hb1) hb2⟩
set_option maxRecDepth 100000 in
set_option maxHeartbeats 1500000 in
theorem finish_no {w:World}{g c:Nat}{A:Option Addr}{ts:List Tok}{V:Value}{s:St}(x:List UInt8)(h:Px w g A c ts V s)(hs:sees ts x s=false):Calls Tryz.prog 211 #[.pointer (some ⟨g,0,none⟩),.string (bs x)] w (NPost (tkn ts s).p 2 w):=by
 have HR:=hid (expect_no x h hs)
 generalize (tkn ts s).p=pp at *
 clear h hs
 go_enter Tryz.func211,Tryz.ntmps211
 go_wp2_with (go_at_call 175;refine HR.out.mono ?_;rintro e w2 ⟨rfl,hb2⟩)
 exact⟨rfl,rfl,hb2⟩
set_option maxRecDepth 100000 in
set_option maxHeartbeats 1500000 in
theorem finish_yes {w:World}{g c:Nat}{A:Option Addr}{ts:List Tok}{V:Value}{s:St}(x:List UInt8)(h:Px w g A c ts V s)(hs:sees ts x s=true)(hn:s.nx+1<ts.length)(ho:1<=s.op):Calls Tryz.prog 211 #[.pointer (some ⟨g,0,none⟩),.string (bs x)] w (PPost g A c ts V (.tuple #[]) { takeS s with op:=s.op-1 } w):=by
 have HR:=hid (expect_yes x h hs hn)
 have H0:=hid h
 generalize tokV (tkn ts s)=v at *
 have hop:=h.op
 clear h hs
 go_enter Tryz.func211,Tryz.ntmps211
 go_wp2_with (go_at_call 175;refine HR.out.mono ?_)
 rintro e W3 ⟨rfl,hX3,hF3⟩
 have d3:=(hX3.box.cell 3).trans rfl
 have fd3:=hX3.box.frozen 3
 have hE:=hX3.box.set_ 3 (.int .i64 ((s.op:Int)-1))
 simp only[List.set_cons_zero,List.set_cons_succ]at hE
 have hFE:=Fr.set (E:=λb=>b=g) hF3 (g:=g) (i:=3) rfl (.int .i64 ((s.op:Int)-1))
 have HH:=hid (And.intro hE hFE)
 have hb3:=And.intro hX3.nx hX3.mo
 have e3:(takeS s).op=s.op:=rfl
 rw[e3]at d3
 clear hX3 hF3 hE hFE HR e3
 go_wp2
 go_end0
 obtain⟨hE,hFE⟩:=HH.out
 refine⟨rfl,H0.out.to hFE ?_ hb3.1 (by show s.op-1<=100000;omega) hb3.2,hFE⟩
 have e:((s.op:Int)-1)=((s.op-1:Nat):Int):=by omega
 rw[e]at hE |-
 exact hE
set_option maxRecDepth 100000 in
set_option maxHeartbeats 1500000 in
theorem begin_yes {w:World}{g c:Nat}{A:Option Addr}{ts:List Tok}{V:Value}{s:St}(x:List UInt8)(h:Px w g A c ts V s)(hs:sees ts x s=true)(hn:s.nx+1<ts.length)(ho:s.op<40)(hm:s.mo<=40):Calls Tryz.prog 181 #[.pointer (some ⟨g,0,none⟩),.string (bs x)] w (PPost g A c ts V (tokV (tkn ts s)) { takeS s with op:=s.op+1,mo:=max s.mo (s.op+1) } w):=by
 obtain⟨W,hW⟩:∃W,w.alloc (.cells #[.int .i64 0,.int .i64 0,.int .i64 0,.string ⟨#[]⟩] 186)=W:=⟨_,rfl⟩
 have hb:Below w.heap.size w W:=by rw[<- hW];exact heap1 _ _
 have hB:Bx W w.heap.size 186 [.int .i64 0,.int .i64 0,.int .i64 0,.string ⟨#[]⟩]:=by rw[<- hW];exact Bx.new w 186 _
 have hX:=h.below hb
 have hne2:w.heap.size≠g:=by have:=h.box.lt;omega
 have HC:=hid (sees_any x hX)
 rw[hs]at HC
 have HT:=hid (λw' (k:Below W.heap.size W w')=>expect_yes x (hX.below k) hs hn)
 have H0:=hid h
 have HX:=hid hX
 generalize tkn ts s=t at *
 clear h hs hX
 unfold tokV at *
 go_enter Tryz.func181,Tryz.ntmps181
 go_wp2_with (go_at_call 128;refine HC.out.mono ?_)
 rintro e w1 ⟨rfl,hb1⟩
 have d3:=((HX.out.below hb1).box.cell 3).trans rfl
 have q40:((s.op:Int)==40)=false:=by rw[beq_eq_false_iff_ne];omega
 clear HC HX
 go_wp2_with (go_at_call 175;refine(HT.out _ hb1).mono ?_)
 rintro e W3 ⟨rfl,hX3,hF1⟩
 have hB3:=Bx.fr (hB.below hb1 hB.lt) hF1 hne2
 have hF3:Fr (· = g) w W3:=(Fr.of (bt hb hb1)).trans hF1
 have hzw:=hB3.lt
 clear hB hF1 hb hb1 hW HT d3 q40
 obtain⟨W4,hW4⟩:∃W4,W3.alloc (.cells #[.int .i64 (t.k:Int),.int .i64 t.n,.int .i64 (t.p:Int),.string (bs t.s)] 186)=W4:=⟨_,rfl⟩
 have hb4:Below W3.heap.size W3 W4:=by rw[<- hW4];exact heap1 _ _
 have hT4:Bx W4 W3.heap.size 186 [.int .i64 (t.k:Int),.int .i64 t.n,.int .i64 (t.p:Int),.string (bs t.s)]:=by rw[<- hW4];exact Bx.new W3 186 _
 have hB4:=hB3.below hb4 hB3.lt
 have hX4:=hX3.box.below hb4 hX3.box.lt
 have hF4:=hF3.trans (Fr.of hb4)
 have hne1:W3.heap.size≠g:=by have:=hX3.box.lt;omega
 have hnx:=hX3.nx
 have d3:=(hX4.cell 3).trans rfl
 have f3:=hX4.frozen 3
 have hX5:=hX4.set_ 3 (.int .i64 ((s.op:Int)+1))
 simp only[List.set_cons_zero,List.set_cons_succ]at hX5
 have e3:(takeS s).op=s.op:=rfl
 have e4:(takeS s).mo=s.mo:=rfl
 rw[e3]at d3
 rw[e4]at hX5
 have HH:=hid (And.intro (hT4.far (p:=⟨g,3,none⟩) hne1 (.int .i64 ((s.op:Int)+1))) (And.intro (hB4.far (p:=⟨g,3,none⟩) hne2 (.int .i64 ((s.op:Int)+1))) (And.intro hX5 (Fr.set (E:=λb=>b=g) hF4 (g:=g) (i:=3) rfl (.int .i64 ((s.op:Int)+1))))))
 clear hX3 hF3 hB3 hb4 hT4 hB4 hX4 hF4 hX5 e3 e4
 go_upto_region 5 with(fail)
 obtain⟨hT5,hB5,hX5,hF5⟩:=HH.out
 clear HH d3 f3 hW4
 generalize W4.setCell ⟨g,3,none⟩ (.int .i64 ((s.op:Int)+1))=W5 at *
 have d3:=(hX5.cell 3).trans rfl
 have d4:=(hX5.cell 4).trans rfl
 have f4:=hX5.frozen 4
 have hmx:max (s.mo:Int) ((s.op:Int)+1)=((max s.mo (s.op+1):Nat):Int):=by omega
 go_still_tail 12,(by kernel_rfl)
 change wpList _ _ _ _ _ _
 go_upto_region 6 with(fail)
 have hmz:(if (s.mo:Int)<(s.op:Int)+1 then (s.op:Int)+1 else (s.mo:Int))=((max s.mo (s.op+1):Nat):Int):=by split<;>omega
 have hX6:=hX5.set_ 4 (.int .i64 ((max s.mo (s.op+1):Nat):Int))
 simp only[List.set_cons_zero,List.set_cons_succ]at hX6
 have hT6:=hT5.far (p:=⟨g,4,none⟩) hne1 (.int .i64 ((max s.mo (s.op+1):Nat):Int))
 have hB6:=hB5.far (p:=⟨g,4,none⟩) hne2 (.int .i64 ((max s.mo (s.op+1):Nat):Int))
 have hF6:=Fr.set (E:=λb=>b=g) hF5 (g:=g) (i:=4) rfl (.int .i64 ((max s.mo (s.op+1):Nat):Int))
 rw[hmz]
 obtain⟨mm,hmm⟩:∃mm,mm=max s.mo (s.op+1):=⟨_,rfl⟩
 rw[<- hmm]at hX6 hT6 hB6 hF6 |-
 have hmb:mm<=100000:=by omega
 clear hX5 hT5 hB5 hF5 d3 d4 f4 hmx hmz
 refine gen_world (λw'=>Bx w' W3.heap.size 186 [.int .i64 (t.k:Int),.int .i64 t.n,.int .i64 (t.p:Int),.string (bs t.s)]/\Bx w' w.heap.size 186 [.int .i64 0,.int .i64 0,.int .i64 0,.string ⟨#[]⟩]/\Bx w' g 151 [.slice A ts.length c,.int .i64 ((takeS s).nx:Int),V,.int .i64 ((s.op:Int)+1),.int .i64 (mm:Int)]/\Fr (· = g) w w') ⟨hT6,hB6,hX6,⟨hF6.os,hF6.tape,hF6.output,hF6.size,hF6.block⟩⟩ λW7 hW7 =>?_
 obtain⟨hT7,hB7,hX7,hF7⟩:=hW7
 clear hX6 hT6 hB6 hF6
 have t0:=(hT7.cell 0).trans rfl
 have t1:=(hT7.cell 1).trans rfl
 have t2:=(hT7.cell 2).trans rfl
 have t3:=(hT7.cell 3).trans rfl
 have b0:=(hB7.cell 0).trans rfl
 have b1:=(hB7.cell 1).trans rfl
 have b2:=(hB7.cell 2).trans rfl
 have b3:=(hB7.cell 3).trans rfl
 have f0:=hB7.frozen 0
 have f1:=hB7.frozen 1
 have f2:=hB7.frozen 2
 have f3:=hB7.frozen 3
 have hE:=(((hB7.set_ 0 (.int .i64 (t.k:Int))).set_ 1 (.int .i64 t.n)).set_ 2 (.int .i64 (t.p:Int))).set_ 3 (.string (bs t.s))
 have hXE:=(((hX7.far (p:=⟨w.heap.size,0,none⟩) hne2.symm (.int .i64 (t.k:Int))).far (p:=⟨w.heap.size,1,none⟩) hne2.symm (.int .i64 t.n)).far (p:=⟨w.heap.size,2,none⟩) hne2.symm (.int .i64 (t.p:Int))).far (p:=⟨w.heap.size,3,none⟩) hne2.symm (.string (bs t.s))
 have hFE:=(((hF7.new (k:=w.heap.size) (i:=0) (Nat.le_refl _) (.int .i64 (t.k:Int))).new (k:=w.heap.size) (i:=1) (Nat.le_refl _) (.int .i64 t.n)).new (k:=w.heap.size) (i:=2) (Nat.le_refl _) (.int .i64 (t.p:Int))).new (k:=w.heap.size) (i:=3) (Nat.le_refl _) (.string (bs t.s))
 have HE:=hid (And.intro hE (And.intro hXE hFE))
 have HMM:=hid hmm
 clear hE hXE hFE hT7 hB7 hX7 hF7 hmm
 go_wp2
 obtain⟨hE,hXE,hFE⟩:=HE.out
 have z0:=hE.cell 0
 have z1:=hE.cell 1
 have z2:=hE.cell 2
 have z3:=hE.cell 3
 simp only[List.set_cons_zero,List.set_cons_succ,List.getElem?_cons_zero,List.getElem?_cons_succ]at z0 z1 z2 z3
 generalize (((W7.setCell ⟨w.heap.size,0,none⟩ (.int .i64 (t.k:Int))).setCell ⟨w.heap.size,1,none⟩ (.int .i64 t.n)).setCell ⟨w.heap.size,2,none⟩ (.int .i64 (t.p:Int))).setCell ⟨w.heap.size,3,none⟩ (.string (bs t.s))=W8 at *
 have e:((s.op:Int)+1)=((s.op+1:Nat):Int):=by omega
 rw[e,HMM.out]at hXE
 exact bodyPost_ret (v :=.agg #[.int .i64 (t.k:Int),.int .i64 t.n,.int .i64 (t.p:Int),.string (bs t.s)]) (by simp[results,Tryz.f181,go_sem,z0,z1,z2,z3]) rfl ⟨rfl,H0.out.to hFE hXE hnx (by show s.op+1<=100000;omega) (by show max s.mo (s.op+1)<=100000;omega),hFE⟩
end
end Go.Proofs.YtedkgofehbecmaaGreatDoor
