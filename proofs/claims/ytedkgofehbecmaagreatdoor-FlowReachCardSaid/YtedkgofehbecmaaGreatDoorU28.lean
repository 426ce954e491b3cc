/- PROVED here: parts N29 of the claim. No condition but those in each theorem's own head. -/
import Derived.Test.YtedkgofehbecmaaGreatDoorU27
import Derived.Test.YtedkgofehbecmaaGreatDoorU05
import Derived.Test.YtedkgofehbecmaaGreatDoorU18
import Derived.BigQuiet
import Derived.Lib.QuietBelow
import Derived.StillTailTactics
import Derived.Deep.Light
namespace Go.Proofs.YtedkgofehbecmaaGreatDoor
open Go.Lib (hid)
open Go Go.RowKit
open Tr (Bx heap1 bt Nds Ints VPost BPost IPost)
set_option maxRecDepth 100000 in
set_option maxHeartbeats 1500000 in
theorem ints_eq (K M:Option Addr)(n m c d:Nat)(ks ms:List Int)(w:World)(hK:Ints w K ks)(hM:Ints w M ms)(hn:n=ks.length)(hm:m=ms.length)(hl:n<=100000):Calls Tryz.prog 223 #[.slice K n c,.slice M m d] w (BPost (decide (ks=ms)) w):=by
 have HK:=hid hK
 have HM:=hid hM
 have HN:=hid hn
 have HN2:=hid hm
 clear hK hM hn hm
 by_cases hnm:n=m
 ·subst hnm
  have hq:((n:Int) != (n:Int))=false:=by simp
  go_enter Tryz.func223,Tryz.ntmps223
  go_wp2
  go_loopg [13] n (λg a13 wr=>∃i:Nat,a13 = .int .i64 (i:Int)/\i<=n/\g=n-i/\ks.take i=ms.take i/\Below w.heap.size w wr)
  case atStart=>exact⟨0,rfl,Nat.zero_le _,rfl,rfl,Below.refl _ _⟩
  case round=>
   obtain⟨i,rfl,hi,rfl,ht,hb⟩:=hrel
   have HB:=hid hb
   by_cases hlt:i<n
   ·have hlz:(i:Int)<(n:Int):=by omega
    have hik:i<ks.length:=by rw[<- HN.out];exact hlt
    have him:i<ms.length:=by rw[<- HN2.out];exact hlt
    obtain⟨bK,oK,rfl,lK,cK⟩:=HK.out (by omega)
    obtain⟨bM,oM,rfl,lM,cM⟩:=HM.out (by omega)
    obtain⟨x,hx⟩:∃x,x=ks[i]:=⟨_,rfl⟩
    obtain⟨y,hy⟩:∃y,y=ms[i]:=⟨_,rfl⟩
    have c1:wr.cell? ⟨bK,oK+i,none⟩=some (.int .i64 x):=(HB.out.cell (p:=⟨bK,oK+i,none⟩) lK).trans (by rw[hx];exact cK i hik)
    have c2:wr.cell? ⟨bM,oM+i,none⟩=some (.int .i64 y):=(HB.out.cell (p:=⟨bM,oM+i,none⟩) lM).trans (by rw[hy];exact cM i him)
    have HT:=hid (show ks.take (i+1)=ks.take i++[x]/\ms.take (i+1)=ms.take i++[y] from⟨by rw[hx];exact List.take_succ_eq_append_getElem hik,by rw[hy];exact List.take_succ_eq_append_getElem him⟩)
    have HE:=hid ht
    clear cK cM lK lM hx hy hb ht
    by_cases e:x=y
    ·have hne:(x != y)=false:=by simp[e]
     have HR:=hid (show ks.take (i+1)=ms.take (i+1)by rw[HT.out.1,HT.out.2,HE.out,e])
     clear HT HE e
     go_wp2_with fail
     go_quiet (fail)
     go_wp2
     go_roundg (n-(i+1))
     case measure=>go_light;omega
     case rel=>
      go_light
      exact⟨i+1,by go_num,by omega,rfl,HR.out,Tk.below_drewN HB.out _⟩
    ·have hne:(x != y)=true:=by simp[e]
     have HR:=hid (show decide (ks=ms)=false from decide_eq_false λh=>e (by
      have h1:=HT.out.1
      have h2:=HT.out.2
      rw[h,h2]at h1
      exact(List.append_inj' h1 rfl).2 |> λq=>(List.cons.inj q).1.symm))
     clear HT HE e
     go_wp2_with fail
     go_quiet (fail)
     go_wp2
     go_ret
     exact⟨congrArg (λz=>Ending.returned (Value.bool z)) HR.out.symm,Tk.below_drewN HB.out _⟩
   ·have hlz:¬(i:Int)<(n:Int):=by omega
    have HR:=hid (show decide (ks=ms)=true from decide_eq_true (by
     rw[List.take_of_length_le (by have:=HN.out;omega),List.take_of_length_le (by have:=HN2.out;omega)]at ht
     exact ht))
    clear hi hlt hb ht
    go_wp2
    go_ret
    exact⟨congrArg (λz=>Ending.returned (Value.bool z)) HR.out.symm,HB.out⟩
 ·have hq:((n:Int) != (m:Int))=true:=by simp;omega
  have HR:=hid (show decide (ks=ms)=false from decide_eq_false λh=>hnm (by rw[HN.out,HN2.out,h]))
  go_enter Tryz.func223,Tryz.ntmps223
  go_wp2
  go_ret
  exact⟨congrArg (λz=>Ending.returned (Value.bool z)) HR.out.symm,Below.refl _ _⟩
def SgPost (xs:List Int)(rs:Int)(w:World)(e:Ending)(w':World):Prop:=∃K c,e = .returned (.agg #[.slice K xs.length c,.int .i64 rs])/\Ints w' K xs/\Below w.heap.size w w'/\∀a,K=some a->w.heap.size<=a.block
set_option maxRecDepth 100000 in
set_option maxHeartbeats 1500000 in
theorem plainSig_any (w:World):Calls Tryz.prog 258 #[] w (SgPost [1] 1 w):=by
 go_enter Tryz.func258,Tryz.ntmps258
 obtain⟨W,hW⟩:∃W,(w.alloc (.cells #[.slice none 0 0,.int .i64 0] 194)).alloc (.cells #[.int .i64 1] 3)=W:=⟨_,rfl⟩
 have hb:Below w.heap.size w W:=by rw[<- hW];exact bt (heap1 _ _) (heap1 _ _)
 have hz:Bx W w.heap.size 194 [.slice none 0 0,.int .i64 0]:=by rw[<- hW];exact(Bx.new w 194 _).alloc _
 have hs:Bx W (w.heap.size+1) 3 [.int .i64 1]:=by
  rw[<- hW]
  have:=Bx.new (w.alloc (.cells #[.slice none 0 0,.int .i64 0] 194)) 3 [.int .i64 1]
  rwa [World.size_alloc]at this
 have z0:=(hz.cell 0).trans rfl
 have z1:=(hz.cell 1).trans rfl
 have f0:=hz.frozen 0
 have f1:=hz.frozen 1
 have HH:=hid (And.intro hb (And.intro hz hs))
 clear hb hz hs
 go_wp2
 obtain⟨hb,hz,hs⟩:=HH.out
 have hz2:=(hz.set_ 0 (.slice (some ⟨w.heap.size+1,0,none⟩) 1 1)).set_ 1 (.int .i64 1)
 have hs2:=(hs.far (p:=⟨w.heap.size,0,none⟩) (by show w.heap.size+1≠w.heap.size;omega) (.slice (some ⟨w.heap.size+1,0,none⟩) 1 1)).far (p:=⟨w.heap.size,1,none⟩) (by show w.heap.size+1≠w.heap.size;omega) (.int .i64 1)
 have hb2:=(hb.setCell (p:=⟨w.heap.size,0,none⟩) (Nat.le_refl _) (.slice (some ⟨w.heap.size+1,0,none⟩) 1 1)).setCell (p:=⟨w.heap.size,1,none⟩) (Nat.le_refl _) (.int .i64 1)
 generalize (W.setCell ⟨w.heap.size,0,none⟩ (.slice (some ⟨w.heap.size+1,0,none⟩) 1 1)).setCell ⟨w.heap.size,1,none⟩ (.int .i64 1)=WE at *
 have c0:=(hz2.cell 0).trans rfl
 have c1:=(hz2.cell 1).trans rfl
 refine bodyPost_ret (v :=.agg #[.slice (some ⟨w.heap.size+1,0,none⟩) 1 1,.int .i64 1]) (by simp[results,Tryz.f258,go_sem,c0,c1]) rfl ⟨_,1,rfl,λh0=>⟨_,0,rfl,hs2.lt,λj hj =>?_⟩,hb2,λa e=>by injection e with e;subst e;exact Nat.le_succ _⟩
 obtain rfl:j=0:=by simpa using hj
 exact(hs2.cell 0).trans rfl
set_option maxRecDepth 100000 in
set_option maxHeartbeats 1500000 in
theorem sameSig_any (K M:Option Addr)(n m c d:Nat)(ks ms:List Int)(r s:Int)(w:World)(hK:Ints w K ks)(hM:Ints w M ms)(hn:n=ks.length)(hm:m=ms.length)(hl:n<=100000):Calls Tryz.prog 188 #[.agg #[.slice K n c,.int .i64 r],.agg #[.slice M m d,.int .i64 s]] w (BPost (decide (ks=ms)&&decide (r=s)) w):=by
 have hb:=bt (heap1 w (.cells #[.slice K n c,.int .i64 r] 194)) (heap1 _ (.cells #[.slice M m d,.int .i64 s] 194))
 have HB:=hid hb
 by_cases e:r=s
 ·have hrs:(r==s)=true:=by simp[e]
  have HE:=hid (ints_eq K M n m c d ks ms _ (hK.below hb) (hM.below hb) hn hm hl)
  rw[decide_eq_true e,Bool.and_true]
  clear hb hK hM hn hm hl e
  generalize decide (ks=ms)=b at *
  go_enter Tryz.func188,Tryz.ntmps188
  go_wp2_with (go_at_call 223;refine HE.out.mono ?_)
  rintro e w1 ⟨rfl,hb1⟩
  have HB1:=hid (bt HB.out hb1)
  clear hb1
  go_wp2
  go_ret
  exact⟨rfl,HB1.out⟩
 ·have hrs:(r==s)=false:=by simp[e]
  rw[decide_eq_false e,Bool.and_false]
  clear hb hK hM hn hm hl e
  go_enter Tryz.func188,Tryz.ntmps188
  go_wp2
  go_ret
  exact⟨rfl,HB.out⟩
def sgX (l:List Tr.Nd)(ks:List Int):List Int:=(ks.filter λk=>decide ((ndA l k).kd=4)).map λk=>(ndA l k).n
theorem sgX_step (l:List Tr.Nd){ks:List Int}{j:Nat}(h:j<ks.length):sgX l (ks.take (j+1))=sgX l (ks.take j)++(if (ndA l ks[j]).kd=4 then [(ndA l ks[j]).n] else []):=by
 unfold sgX
 rw[filt_step (q:=λk=>decide ((ndA l k).kd=4)) h,List.map_append]
 by_cases e:(ndA l ks[j]).kd=4
 ·simp[e]
 ·simp[e]
theorem sgX_len (l:List Tr.Nd)(ks:List Int):(sgX l ks).length<=ks.length:=by
 unfold sgX
 rw[List.length_map]
 exact List.length_filter_le _ _
structure SgC (w:World) (P:List Value) (rs:Int) (v:Value) (wr:World):Prop where
 b:Bx wr w.heap.size 87 P
 r:Bx wr (w.heap.size+1) 194 [.slice none 0 0,.int .i64 0]
 s:Bx wr (w.heap.size+1+1) 194 [v,.int .i64 rs]
 lo:Below w.heap.size w wr
 sz:w.heap.size+1+1+1<=wr.heap.size
structure SgI (w:World) (P:List Value) (rs:Int) (v:Value) (xs:List Int) (wr:World):Prop where
 c:SgC w P rs v wr
 o:wr.ownsRow (w.heap.size+1+1+1) 3 1 v xs.length (xs.map (Value.int .i64))
section
variable {w:World} {P:List Value} {rs:Int} {v v':Value} {xs:List Int} {wr w':World}
theorem SgC.alloc (h:SgC w P rs v wr)(ob:Obj):SgC w P rs v (wr.alloc ob):=
 ⟨h.b.alloc _,h.r.alloc _,h.s.alloc _,h.lo.alloc h.lo.size _,by rw[World.size_alloc];have:=h.sz;omega⟩
theorem SgC.drew (h:SgC w P rs v wr):SgC w P rs v { wr with drawn:=wr.drawn+1 }:=⟨h.b,h.r,h.s,bdrew h.lo,h.sz⟩
theorem SgC.grown {row:Option Nat}(h:SgC w P rs v wr)(hg:wr.grownBy w' row)(hr:∀k,row=some k->w.heap.size+1+1+1<=k):SgC w P rs v w':=
 ⟨h.b.grown hg (λe=>by have:=hr _ e.symm;omega),h.r.grown hg (λe=>by have:=hr _ e.symm;omega),h.s.grown hg (λe=>by have:=hr _ e.symm;omega),h.lo.grown hg h.lo.size (λk e=>by have:=hr k e;omega),Nat.le_trans h.sz hg.size⟩
theorem SgC.put (h:SgC w P rs v wr)(u:Value):SgC w P rs u (wr.setCell ⟨w.heap.size+1+1,0,none⟩ u):=
 ⟨h.b.far (p:=⟨w.heap.size+1+1,0,none⟩) (by show w.heap.size≠w.heap.size+1+1;omega) _,h.r.far (p:=⟨w.heap.size+1+1,0,none⟩) (by show w.heap.size+1≠w.heap.size+1+1;omega) _,h.s.set_ 0 u,h.lo.setCell (p:=⟨w.heap.size+1+1,0,none⟩) (by show w.heap.size<=w.heap.size+1+1;omega) _,by rw[World.size_setCell];exact h.sz⟩
end
theorem run_load139s {w:World}{b:Nat}{A:Option Addr}{m c:Nat}(h:w.cell? ⟨b,0,none⟩=some (.slice A m c)):(Instr.loadAt 28 (.pointer (some ⟨b,0,none⟩))).run Tryz.prog w = .ok (.slice A m c) w:=by simp[go_sem,h]
theorem run_field139_0 (b:Nat)(w:World):(Instr.fieldAt 194 (.pointer (some ⟨b,0,none⟩)) 0).run Tryz.prog w = .ok (.pointer (some ⟨b,0,none⟩)) w:=by kernel_rfl
theorem run_field83_0 (b:Nat)(w:World):(Instr.fieldAt 87 (.pointer (some ⟨b,0,none⟩)) 0).run Tryz.prog w = .ok (.pointer (some ⟨b,0,none⟩)) w:=by kernel_rfl
theorem run_field37_1g (b off:Nat)(w:World):(Instr.fieldAt 50 (.pointer (some ⟨b,off,none⟩)) 1).run Tryz.prog w = .ok (.pointer (some ⟨b,off+1,none⟩)) w:=by kernel_rfl
theorem run_load23s {w:World}{b off n c:Nat}{A:Option Addr}(h:w.cell? ⟨b,off,none⟩=some (.slice A n c)):(Instr.loadAt 22 (.pointer (some ⟨b,off,none⟩))).run Tryz.prog w = .ok (.slice A n c) w:=by simp[go_sem,h]
theorem run_load3s {w:World}{b off:Nat}{n:Int}(h:w.cell? ⟨b,off,none⟩=some (.int .i64 n)):(Instr.loadAt 3 (.pointer (some ⟨b,off,none⟩))).run Tryz.prog w = .ok (.int .i64 n) w:=by simp[go_sem,h]
theorem own_drew {base n:Nat}{v:Value}{xs:List Value}{w:World}(h:w.ownsRow base 3 1 v n xs):({ w with drawn:=w.drawn+1 }:World).ownsRow base 3 1 v n xs:=h
theorem own_far {base n:Nat}{v:Value}{xs:List Value}{w:World}(h:w.ownsRow base 3 1 v n xs){p:Addr}(hp:p.block<base)(u:Value):(w.setCell p u).ownsRow base 3 1 v n xs:=by
 refine⟨h.1,h.2.imp id ?_⟩
 rintro⟨g,cap,cur,h1,h2,h3,h4⟩
 exact⟨g,cap,cur,h1,h2,(heap_setCell_other w p g u (by omega)).trans h3,h4⟩
section
variable {ops:Array Oper} {Q:Exit->Act->World->Prop} {S:World->Prop} {fuel:Nat} {listed:Array Bool} {a:Act} {w:World}
theorem h_at {i:Nat}{N:Act->World->Prop}(o:Oper)(hi:ops[i]?=some o)(hw:Region.wanted o (yielded ops a.tmps)=true)(h:o.wp Tryz.prog a w N Q):wpOp Tryz.prog ops Q i N a w:=by
 unfold wpOp
 simp only[hi,hw,if_true]
 exact .inl h
end
section
variable {K:Act->World->Prop} {Q:Exit->Act->World->Prop} {a:Act} {w:World} {o:Oper}
theorem load35_wp {x:Operand}{g:Nat}{n c:Nat}{A:Option Addr}(ho:o.op = .load 28 x)(hx:a.eval x = .pointer (some ⟨g,0,none⟩))(hc:w.cell? ⟨g,0,none⟩=some (.slice A n c))
  (h:K (a.put o.dst (.slice A n c)) w):o.wp Tryz.prog a w K Q:=by
 unfold Oper.wp execOp
 simp only[ho,hx]
 simp[go_sem,hc,Result.andThen]
 exact h
theorem store35_wp {x y:Operand}{g:Nat}{u0 u1:Value}{n c:Nat}{A:Option Addr}(ho:o.op = .store 28 x y)(hx:a.eval x = .pointer (some ⟨g,0,none⟩))(hy:a.eval y = .slice A n c)(hB:Bx w g 194 [u0,u1])
  (h:K (a.put o.dst undef) (w.setCell ⟨g,0,none⟩ (.slice A n c))):o.wp Tryz.prog a w K Q:=by
 have c0:=hB.cell 0
 have f0:=hB.frozen 0
 simp only[List.getElem?_cons_zero]at c0
 unfold Oper.wp execOp
 simp only[ho,hx,hy]
 simp[go_sem,c0,f0,Result.andThen]
 exact h
end
set_option maxRecDepth 100000 in
set_option maxHeartbeats 1500000 in
theorem sig_any {w:World}{l:List Tr.Nd}{A O:Option Addr}{n bd bp:Nat}(h:Prg w l A n O bd bp)(c co q:Nat)(hq:q<n):Calls Tryz.prog 187 #[PrV A n c O co bd bp,.int .i64 (q:Int)] w (SgPost (sgP l q) (ndA l q).n w):=by
 obtain⟨i0,hi,hz0,hz1,hz2⟩:=info_parts info3
 unfold PrV
 have hql:q<l.length:=by rw[<- h.len];exact hq
 obtain⟨bA,off,K,cK,rfl,hlt,x0,x1,x2,x3,x4,hI⟩:=node_at h.nds (Below.refl _ _) q hql
 have HK:=hid (show∀j (hj:j<(ndA l q).ks.length),∃k2:Nat,(ndA l q).ks[j]=(k2:Int)/\k2<n/\w.cell? ⟨bA,off+k2*5,none⟩=some (.int .i64 (ndA l k2).kd)/\w.cell? ⟨bA,off+k2*5+1,none⟩=some (.int .i64 (ndA l k2).n)from λj hj=>by
  obtain⟨e1,e2⟩:=h.ahead q hql ((ndA l q).ks[j]) (by rw[<- ndA_eq hql];exact List.getElem_mem _)
  have hkl:((ndA l q).ks[j]).toNat<l.length:=by omega
  obtain⟨bB,off2,K2,cK2,e3,_,y0,y1,_⟩:=node_at h.nds (Below.refl _ _) _ hkl
  cases e3
  refine⟨((ndA l q).ks[j]).toNat,by omega,by rw[h.len];exact hkl,?_,?_⟩
  ·rw[y0,ndA_eq hkl]
  ·rw[y1,ndA_eq hkl])
 have hkm:=h.kids _ (List.getElem_mem hql)
 rw[<- ndA_eq hql]at x1 x4 hI hkm
 have hqz:(q:Int)<(n:Int):=by omega
 show Calls _ _ _ _ (SgPost (sgX l (ndA l q).ks) (ndA l q).n w)
 generalize (ndA l q).n=rs at *
 generalize (ndA l q).ks=ks at *
 have HI:=hid hI
 obtain⟨m,hm⟩:∃m,m=ks.length:=⟨_,rfl⟩
 have HM:=hid hm
 rw[<- hm]at x4 hkm
 have hl1:bA<w.heap.size+1:=by omega
 have hl2:bA<w.heap.size+1+1:=by omega
 clear h hI hm x0 x2 x3
 go_enter Tryz.func187,Tryz.ntmps187
 go_wp2
 go_loopw [7,22] (λv7 i wr=>∃(j:Nat) (v:Value),j<=m/\i = .int .i64 (j:Int)/\SgI w [.slice (some ⟨bA,off,none⟩) n c,.slice O n co,.map (some bd),.map (some bp)] rs v (sgX l (ks.take j)) wr) (λ_ i _=>m-(intOf i).toNat)
 case atStart=>
  have e0:∀(w':World) (o:Obj),(w'.alloc o).heap.size=w'.heap.size+1:=λw' o=>World.size_alloc w' o
  have k2:=Bx.new (w.alloc (.cells #[.slice (some ⟨bA,off,none⟩) n c,.slice O n co,.map (some bd),.map (some bp)] 87)) 194 [.slice none 0 0,.int .i64 0]
  have k3:=Bx.new ((w.alloc (.cells #[.slice (some ⟨bA,off,none⟩) n c,.slice O n co,.map (some bd),.map (some bp)] 87)).alloc (.cells #[.slice none 0 0,.int .i64 0] 194)) 194 [.slice none 0 0,.int .i64 rs]
  rw[e0]at k2
  rw[e0,e0]at k3
  exact⟨0,.slice none 0 0,Nat.zero_le _,rfl,⟨((Bx.new w 87 _).alloc _).alloc _,k2.alloc _,k3,bt (heap1 _ _) (bt (heap1 _ _) (heap1 _ _)),by rw[e0,e0,e0];exact Nat.le_refl _⟩,World.ownsRow_nil _ _ _ _⟩
 case round=>
  obtain⟨j,v,hj,rfl,hS0⟩:=hrel
  obtain⟨W1,rfl⟩:∃W1,W1=wr:=⟨_,rfl⟩
  by_cases hjm:j<m
  ·have hjz:(j:Int)<(m:Int):=by omega
   have hjk:j<ks.length:=by rw[<- HM.out];exact hjm
   obtain⟨bK,oK,rfl,hbK,hcK⟩:=HI.out (by omega)
   obtain⟨k2,hke,hk2n,hkk,hkn⟩:=HK.out j hjk
   have hck:=(hS0.c.lo.cell (p:=⟨bK,oK+j,none⟩) hbK).trans (hcK j hjk)
   rw[hke]at hck
   have hk2z:(k2:Int)<(n:Int):=by omega
   have hkk2:=(hS0.c.lo.cell (p:=⟨bA,off+k2*5,none⟩) hlt).trans hkk
   have HST:=hid (sgX_step l hjk)
   rw[hke]at HST
   have HXL:=hid (show(sgX l (ks.take j)).length<=4000 from Nat.le_trans (sgX_len l _) (by rw[List.length_take];omega))
   obtain⟨xs,hxs⟩:∃xs,xs=sgX l (ks.take j):=⟨_,rfl⟩
   rw[<- hxs]at hS0 HST HXL
   obtain⟨VL,cL,rfl,_⟩:=own_ints hS0.o
   have b0:=(hS0.c.b.cell 0).trans rfl
   have hS0':=hid hS0
   clear hS0 hcK hke hxs hkk
   generalize (ndA l (k2:Int)).n=kn at *
   by_cases hk4:(ndA l (k2:Int)).kd=4
   ·rw[hk4]at hkk2
    rw[if_pos hk4]at HST
    clear hk4
    have hxl:=HXL.out
    go_upto_region 6 with(fail)
    have hS:=hS0'.out.c.drew
    have hO:=own_drew hS0'.out.o
    refine wp_region_held (S:=λw'=>∃u,SgC w [.slice (some ⟨bA,off,none⟩) n c,.slice O n co,.map (some bd),.map (some bp)] rs u w') (by kernel_rfl) ?_
    clear hkk2 hck b0
    generalize ({ W1 with drawn:=W1.drawn+1 }:World)=W5 at *
    refine hpu 0 (.pointer (some ⟨w.heap.size+1+1,0,none⟩)) (by kernel_rfl) rfl rfl (λ_ _ _ h=>h) rfl (y_field rfl rfl (run_field139_0 _)) ⟨_,hS⟩ ?_
    simp only[ap]
    refine hpu 2 (.pointer (some ⟨w.heap.size,0,none⟩)) (by kernel_rfl) rfl rfl (λ_ _ _ h=>h) rfl (y_field rfl rfl (run_field83_0 _)) ⟨_,hS⟩ ?_
    simp only[ap]
    refine hpu 3 (.slice (some ⟨bA,off,none⟩) n c) (by kernel_rfl) rfl rfl (λ_ _ _ h=>h) rfl (y_load rfl rfl (λw' q=>by obtain⟨u,q⟩:=q;exact run_load23s ((q.b.cell 0).trans rfl))) ⟨_,hS⟩ ?_
    simp only[ap]
    refine hpu 4 (.int .i64 (k2:Int)) (by kernel_rfl) rfl rfl (λ_ _ _ h=>h) rfl (y_move rfl rfl) ⟨_,hS⟩ ?_
    simp only[ap]
    refine hpu 5 (.pointer (some ⟨bA,off+k2*5,none⟩)) (by kernel_rfl) rfl rfl (λ_ _ _ h=>h) rfl (y_index rfl rfl rfl (Tr.run_idx (t:=22) (e:=50) (sz:=5) (by kernel_rfl) (by kernel_rfl) (by kernel_rfl) bA off n c k2 hk2n)) ⟨_,hS⟩ ?_
    simp only[ap]
    refine hpu 6 (.pointer (some ⟨bA,off+k2*5+1,none⟩)) (by kernel_rfl) rfl rfl (λ_ _ _ h=>h) rfl (y_field rfl rfl (run_field37_1g _ _)) ⟨_,hS⟩ ?_
    simp only[ap]
    refine hpu 7 (.int .i64 kn) (by kernel_rfl) rfl rfl (λ_ _ _ h=>h) rfl (y_load rfl rfl (λw' q=>by obtain⟨u,q⟩:=q;exact run_load3s ((q.lo.cell (p:=⟨bA,off+k2*5+1,none⟩) hlt).trans hkn))) ⟨_,hS⟩ ?_
    simp only[ap]
    refine wpAnyH_all (rs:=[1,8]) (by kernel_rfl) (by simp) λi hi8 =>?_
    rcases List.mem_cons.1 hi8 with rfl |hi8
    ·refine h_at _ rfl rfl ?_
     refine load35_wp rfl rfl ((hS.s.cell 0).trans rfl) ⟨⟨_,hS⟩,?_⟩
     simp only[Act.put,List.setIfInBounds_toArray]
     refine h_one 8 _ rfl (by kernel_rfl) rfl ?_
     refine slice1 rfl rfl ⟨⟨_,hS.alloc _⟩,?_⟩
     simp only[Act.put]
     refine h_one 9 _ rfl (by kernel_rfl) rfl ?_
     refine wp_append_own2 (W5.alloc (.cells #[.int .i64 kn] 3)) _ _ 28 rfl (w.heap.size+1+1+1) 3 i0 (.int .i64 0) 1 8 Tryz.underlying28 hi hz0 hz1 hz2 rfl (by decide) (.slice VL xs.length cL) xs.length (xs.map (Value.int .i64)) rfl (hO.kept (row:=none) (World.grownBy_alloc _ _ _) (Classical.em _)) ⟨W5.heap.size,0,none⟩ 1 1 [.int .i64 kn] rfl rfl (blk_cells W5 [.int .i64 kn] 3) (λu hu=>by rw[List.mem_singleton.1 hu];rfl) (by unfold maxLen;omega) (by omega) (by rw[World.size_alloc];have:=hS.sz;omega) ?_
     intro v' w4 hown4 hgrow4 _
     have hown5:w4.ownsRow (w.heap.size+1+1+1) 3 1 v' (xs++[kn]).length ((xs++[kn]).map (Value.int .i64)):=by rw[List.length_append,List.map_append];exact hown4
     obtain⟨V9,c9,hv9,_⟩:=own_ints hown5
     have hlen:(xs++[kn]).length=xs.length+1:=by simp
     rw[hlen]at hown5 hv9
     subst hv9
     have hS4:=(hS.alloc (.cells #[.int .i64 kn] 3)).grown hgrow4 (λk e=>(hO.lt k e).1)
     refine⟨⟨_,hS4⟩,?_⟩
     simp only[Act.put]
     refine hpu 10 (.pointer (some ⟨w.heap.size+1+1,0,none⟩)) (by kernel_rfl) rfl rfl (λ_ _ _ h=>h) rfl (y_field rfl rfl (run_field139_0 _)) ⟨_,hS4⟩ ?_
     simp only[ap]
     refine h_one 11 _ rfl (by kernel_rfl) rfl ?_
     have hS9:=hS4.put (.slice V9 (xs.length+1) c9)
     have hO9:=own_far hown5 (p:=⟨w.heap.size+1+1,0,none⟩) (by show w.heap.size+1+1<w.heap.size+1+1+1;omega) (.slice V9 (xs.length+1) c9)
     refine store35_wp rfl rfl rfl hS4.s ⟨⟨_,hS9⟩,?_⟩
     simp only[Act.put]
     refine wpAnyH_done (by kernel_rfl) ?_ _
     have HH:=hid (And.intro hS9 hO9)
     have HLE:=hid hlen
     clear hS hO hown4 hown5 hgrow4 hS4 hS9 hO9 hlen
     go_wp2
     go_roundw
     case rel=>exact⟨j+1,_,by omega,by go_num,HH.out.1,by rw[HST.out,HLE.out];exact HH.out.2⟩
     case measure=>simp[intOf];omega
    ·obtain rfl:=List.mem_singleton.1 hi8
     refine h_at _ rfl rfl ?_
     refine slice1 rfl rfl ⟨⟨_,hS.alloc _⟩,?_⟩
     simp only[Act.put,List.setIfInBounds_toArray]
     refine h_one 1 _ rfl (by kernel_rfl) rfl ?_
     refine load35_wp rfl rfl (((hS.alloc _).s.cell 0).trans rfl) ⟨⟨_,hS.alloc _⟩,?_⟩
     simp only[Act.put]
     refine h_one 9 _ rfl (by kernel_rfl) rfl ?_
     refine wp_append_own2 (W5.alloc (.cells #[.int .i64 kn] 3)) _ _ 28 rfl (w.heap.size+1+1+1) 3 i0 (.int .i64 0) 1 8 Tryz.underlying28 hi hz0 hz1 hz2 rfl (by decide) (.slice VL xs.length cL) xs.length (xs.map (Value.int .i64)) rfl (hO.kept (row:=none) (World.grownBy_alloc _ _ _) (Classical.em _)) ⟨W5.heap.size,0,none⟩ 1 1 [.int .i64 kn] rfl rfl (blk_cells W5 [.int .i64 kn] 3) (λu hu=>by rw[List.mem_singleton.1 hu];rfl) (by unfold maxLen;omega) (by omega) (by rw[World.size_alloc];have:=hS.sz;omega) ?_
     intro v' w4 hown4 hgrow4 _
     have hown5:w4.ownsRow (w.heap.size+1+1+1) 3 1 v' (xs++[kn]).length ((xs++[kn]).map (Value.int .i64)):=by rw[List.length_append,List.map_append];exact hown4
     obtain⟨V9,c9,hv9,_⟩:=own_ints hown5
     have hlen:(xs++[kn]).length=xs.length+1:=by simp
     rw[hlen]at hown5 hv9
     subst hv9
     have hS4:=(hS.alloc (.cells #[.int .i64 kn] 3)).grown hgrow4 (λk e=>(hO.lt k e).1)
     refine⟨⟨_,hS4⟩,?_⟩
     simp only[Act.put]
     refine hpu 10 (.pointer (some ⟨w.heap.size+1+1,0,none⟩)) (by kernel_rfl) rfl rfl (λ_ _ _ h=>h) rfl (y_field rfl rfl (run_field139_0 _)) ⟨_,hS4⟩ ?_
     simp only[ap]
     refine h_one 11 _ rfl (by kernel_rfl) rfl ?_
     have hS9:=hS4.put (.slice V9 (xs.length+1) c9)
     have hO9:=own_far hown5 (p:=⟨w.heap.size+1+1,0,none⟩) (by show w.heap.size+1+1<w.heap.size+1+1+1;omega) (.slice V9 (xs.length+1) c9)
     refine store35_wp rfl rfl rfl hS4.s ⟨⟨_,hS9⟩,?_⟩
     simp only[Act.put]
     refine wpAnyH_done (by kernel_rfl) ?_ _
     have HH:=hid (And.intro hS9 hO9)
     have HLE:=hid hlen
     clear hS hO hown4 hown5 hgrow4 hS4 hS9 hO9 hlen
     go_wp2
     go_roundw
     case rel=>exact⟨j+1,_,by omega,by go_num,HH.out.1,by rw[HST.out,HLE.out];exact HH.out.2⟩
     case measure=>simp[intOf];omega
   ·have hk4':((ndA l (k2:Int)).kd==4)=false:=beq_eq_false_iff_ne.2 hk4
    rw[if_neg hk4,List.append_nil]at HST
    clear hk4
    generalize (ndA l (k2:Int)).kd=kk at *
    go_wp2
    go_roundw
    case rel=>exact⟨j+1,_,by omega,by go_num,by rw[HST.out];exact hS0'.out⟩
    case measure=>simp[intOf];omega
  ·have hjz:¬(j:Int)<(m:Int):=by omega
   have hall:ks.take j=ks:=List.take_of_length_le (by have:=HM.out;omega)
   rw[hall]at hS0
   obtain⟨VL,cL,rfl,_⟩:=own_ints hS0.o
   have hint:=hS0.o
   have s0:=(hS0.c.s.cell 0).trans rfl
   have s1:=(hS0.c.s.cell 1).trans rfl
   have r0:=(hS0.c.r.cell 0).trans rfl
   have r1:=(hS0.c.r.cell 1).trans rfl
   have fr0:=hS0.c.r.frozen 0
   have fr1:=hS0.c.r.frozen 1
   have HS:=hid (And.intro hS0.c hint)
   clear hS0 hall hint
   generalize sgX l ks=xs at *
   go_wp2
   obtain⟨hc,hint⟩:=HS.out
   have hr2:=(hc.r.set_ 0 (.slice VL xs.length cL)).set_ 1 (.int .i64 rs)
   have hb2:=(hc.lo.setCell (p:=⟨w.heap.size+1,0,none⟩) (Nat.le_succ _) (.slice VL xs.length cL)).setCell (p:=⟨w.heap.size+1,1,none⟩) (Nat.le_succ _) (.int .i64 rs)
   have ho2:=own_far (own_far hint (p:=⟨w.heap.size+1,0,none⟩) (by show w.heap.size+1<w.heap.size+1+1+1;omega) (.slice VL xs.length cL)) (p:=⟨w.heap.size+1,1,none⟩) (by show w.heap.size+1<w.heap.size+1+1+1;omega) (.int .i64 rs)
   generalize (W1.setCell ⟨w.heap.size+1,0,none⟩ (.slice VL xs.length cL)).setCell ⟨w.heap.size+1,1,none⟩ (.int .i64 rs)=WE at *
   have c0:=(hr2.cell 0).trans rfl
   have c1:=(hr2.cell 1).trans rfl
   obtain⟨V2,c2,e2,hi2⟩:=own_ints ho2
   cases e2
   exact bodyPost_ret (v :=.agg #[.slice VL xs.length cL,.int .i64 rs]) (by simp[results,Tryz.f187,go_sem,c0,c1]) rfl ⟨VL,cL,rfl,hi2,hb2,λa e=>by subst e;have:=(own_block hint a.block rfl).1;omega⟩
end Go.Proofs.YtedkgofehbecmaaGreatDoor
namespace Go.Proofs.YtedkgofehbecmaaGreatDoor
open Go.Lib (hid)
open Go Go.RowKit Go.Sort
open Tr (Bx heap1 bt Nds Ints VPost BPost)
section
variable {w:World} {l:List Tr.Nd} {A O:Option Addr} {n bd bp:Nat}
set_option maxRecDepth 100000 in
set_option maxHeartbeats 1500000 in
theorem variable_any (h:Prg w l A n O bd bp)(c co p:Nat)(hp:p<n):Calls Tryz.prog 216 #[PrV A n c O co bd bp,.int .i64 (p:Int)] w (Tr.IPost (vrT l p) w):=by
 unfold PrV vrT
 have hb0:=heap1 w (.cells #[.slice A n c,.slice O n co,.map (some bd),.map (some bp)] 87)
 have xl:p<l.length:=by rw[<- h.len];exact hp
 have xz:(p:Int)<(n:Int):=by omega
 obtain⟨bA,off,K,cK,rfl,xt,x0,x1,x2,x3,x4,xI⟩:=node_at h.nds hb0 p xl
 rw[<- ndA_eq xl]at x0 x1 x2 x3 x4 xI
 have hn:=h.text _ (List.getElem_mem xl)
 rw[<- ndA_eq xl]at hn
 have hX:=Bx.new w 87 [.slice (some ⟨bA,off,none⟩) n c,.slice O n co,.map (some bd),.map (some bp)]
 obtain⟨W0,hW0⟩:∃W0,w.alloc (.cells #[.slice (some ⟨bA,off,none⟩) n c,.slice O n co,.map (some bd),.map (some bp)] 87)=W0:=⟨_,rfl⟩
 rw[hW0]at hb0 hX x0 x1 x2 x3 x4
 have HB0:=hid hb0
 cases hd:dnA l p (ndA l p).tx with
 |none=>
  show Calls _ _ _ _ (Tr.IPost 0 w)
  have b0:=(hX.cell 0).trans rfl
  have b1:=(hX.cell 1).trans rfl
  have b2:=(hX.cell 2).trans rfl
  have b3:=(hX.cell 3).trans rfl
  have y3:=cell_regrown x3
  have d0:=cell_regrown b0
  have d1:=cell_regrown b1
  have d2:=cell_regrown b2
  have d3:=cell_regrown b3
  have cq:∀d os,Calls Tryz.prog 214 #[.agg #[.slice (some ⟨bA,off,none⟩) n c,.slice O n co,.map (some bd),.map (some bp)],.int .i64 (p:Int),.string (ndA l p).tx] (grow (redrawn W0 d) os) λe w''=>e = .returned (.int .i64 (-1))/\∃p:Regrown,w''=grow (redrawn W0 p.d) p.os:=λd os=>Calls.regrown_of (by
     have q:=denoted_any (h.below (bt hb0 (below_regrown W0 d os))) c co p hp (ndA l p).tx hn
     rw[hd]at q
     exact q)
  clear h hd hn xI x0 x1 x2 x3 x4 hp xl
  generalize (ndA l (p:Int)).tx=tx at *
  go_enter Tryz.func216,Tryz.ntmps216
  go_wp2
  refine wp_region_quiet_below (by kernel_rfl) (by kernel_rfl) ?_
  repeat (go_big_quiet_step (first|exact cq _ _))
  refine wpQuiet_nil ?_
  intro _ hw'
  obtain⟨⟨dq,osq⟩,hw''⟩:=hw'
  subst hw''
  have hbq:=below_regrown W0 dq osq
  generalize grow (redrawn W0 dq) osq=w1 at *
  have HBQ:=hid hbq
  clear cq hbq
  go_wp2
  go_ret
  exact⟨rfl,bt HB0.out HBQ.out⟩
 |some q=>
  show Calls _ _ _ _ (Tr.IPost (ndA l (q:Int)).n w)
  have hq:q<n:=by rw[h.len];exact(dnA_lt hd).1
  have ul:q<l.length:=by rw[<- h.len];exact hq
  have uz:(q:Int)<(n:Int):=by omega
  obtain⟨bBu,offu,K2,cK2,eu,ut,u0,u1,u2,u3,u4,uI⟩:=node_at h.nds hb0 q ul
  cases eu
  rw[<- ndA_eq ul]at u0 u1 u2 u3 u4 uI
  have HX:=hid hX
  have HU:=hid (And.intro ut u1)
  have hqe:((q:Int) == -1)=false:=beq_eq_false_iff_ne.2 (by omega)
  have b0:=(hX.cell 0).trans rfl
  have b1:=(hX.cell 1).trans rfl
  have b2:=(hX.cell 2).trans rfl
  have b3:=(hX.cell 3).trans rfl
  have y3:=cell_regrown x3
  have d0:=cell_regrown b0
  have d1:=cell_regrown b1
  have d2:=cell_regrown b2
  have d3:=cell_regrown b3
  have cq:∀d os,Calls Tryz.prog 214 #[.agg #[.slice (some ⟨bA,off,none⟩) n c,.slice O n co,.map (some bd),.map (some bp)],.int .i64 (p:Int),.string (ndA l p).tx] (grow (redrawn W0 d) os) λe w''=>e = .returned (.int .i64 (q:Int))/\∃p:Regrown,w''=grow (redrawn W0 p.d) p.os:=λd os=>Calls.regrown_of (by
     have q:=denoted_any (h.below (bt hb0 (below_regrown W0 d os))) c co p hp (ndA l p).tx hn
     rw[hd]at q
     exact q)
  clear h hd hn xI x0 x1 x2 x3 x4 hp xl
  generalize (ndA l (p:Int)).tx=tx at *
  clear u0 u1 u2 u3 u4 uI ul hq ut
  generalize (ndA l (q:Int)).n=m at *
  go_enter Tryz.func216,Tryz.ntmps216
  go_wp2
  refine wp_region_quiet_below (by kernel_rfl) (by kernel_rfl) ?_
  repeat (go_big_quiet_step (first|exact cq _ _))
  refine wpQuiet_nil ?_
  intro _ hw'
  obtain⟨⟨dq,osq⟩,hw''⟩:=hw'
  subst hw''
  have hbq:=below_regrown W0 dq osq
  generalize grow (redrawn W0 dq) osq=w1 at *
  have HBQ:=hid hbq
  have hX1:=HX.out.below hbq HX.out.lt
  have g0:=(hX1.cell 0).trans rfl
  have g1:=(hbq.cell (p:=⟨bA,off+q*5+1,none⟩) HU.out.1).trans HU.out.2
  clear cq hbq hX1 y3 d0 d1 d2 d3
  go_wp2
  go_ret
  exact⟨rfl,bt HB0.out HBQ.out⟩
end
end Go.Proofs.YtedkgofehbecmaaGreatDoor
namespace Go.Proofs.YtedkgofehbecmaaGreatDoor
open Go.Lib (hid)
open Go Go.RowKit
open Tr (Bx heap1 bt Nds Ints VPost BPost)
section
variable {w:World} {l:List Tr.Nd} {A O:Option Addr} {n bd bp:Nat}
set_option maxRecDepth 100000 in
set_option maxHeartbeats 1500000 in
theorem typeE_any (h:Prg w l A n O bd bp)(c co p:Nat)(hp:p<n):Calls Tryz.prog 220 #[PrV A n c O co bd bp,.int .i64 (p:Int)] w (Tr.IPost (typA l p) w):=by
 unfold PrV
 have hb0:=heap1 w (.cells #[.slice A n c,.slice O n co,.map (some bd),.map (some bp)] 87)
 have xl:p<l.length:=by rw[<- h.len];exact hp
 have xz:(p:Int)<(n:Int):=by omega
 obtain⟨bA,off,K,cK,rfl,xt,x0,x1,x2,x3,x4,xI⟩:=node_at h.nds hb0 p xl
 rw[<- ndA_eq xl]at x0 x1 x2 x3 x4 xI
 have hb1:=bt hb0 (heap1 (w.alloc (.cells #[.slice (some ⟨bA,off,none⟩) n c,.slice O n co,.map (some bd),.map (some bp)] 87)) (.cells #[.int .i64 (ndA l p).kd,.int .i64 (ndA l p).n,.int .i64 (ndA l p).pl,.string (ndA l p).tx,.slice K (ndA l p).ks.length cK] 50))
 have HB1:=hid hb1
 have HV:=hid (variable_any (h.below hb1) c co p hp)
 unfold PrV at HV
 have HS:=hid (signType_any (ndA l p).tx ((w.alloc (.cells #[.slice (some ⟨bA,off,none⟩) n c,.slice O n co,.map (some bd),.map (some bp)] 87)).alloc (.cells #[.int .i64 (ndA l p).kd,.int .i64 (ndA l p).n,.int .i64 (ndA l p).pl,.string (ndA l p).tx,.slice K (ndA l p).ks.length cK] 50)))
 clear h hb0 hb1 xI hp xl
 unfold typA
 generalize (ndA l (p:Int)).kd=k at *
 generalize (ndA l (p:Int)).tx=tx at *
 generalize (ndA l (p:Int)).n=nn at *
 generalize (ndA l (p:Int)).pl=pl at *
 generalize (ndA l (p:Int)).ks.length=m at *
 generalize vrT l p=vt at *
 by_cases k20:k=20
 ·subst k20
  rw[if_pos (by decide)]
  clear HV HS
  go_enter Tryz.func220,Tryz.ntmps220
  go_wp2
  go_ret
  exact⟨rfl,HB1.out⟩
 have f20:(k==20)=false:=beq_eq_false_iff_ne.2 k20
 by_cases k23:k=23
 ·subst k23
  rw[if_pos (by decide)]
  clear HV HS
  go_enter Tryz.func220,Tryz.ntmps220
  go_wp2
  go_ret
  exact⟨rfl,HB1.out⟩
 have f23:(k==23)=false:=beq_eq_false_iff_ne.2 k23
 by_cases k24:k=24
 ·subst k24
  rw[if_pos (by decide)]
  clear HV HS
  go_enter Tryz.func220,Tryz.ntmps220
  go_wp2
  go_ret
  exact⟨rfl,HB1.out⟩
 have f24:(k==24)=false:=beq_eq_false_iff_ne.2 k24
 rw[if_neg (by omega)]
 by_cases k21:k=21
 ·subst k21
  rw[if_pos rfl]
  clear HV HS
  go_enter Tryz.func220,Tryz.ntmps220
  go_wp2
  go_ret
  exact⟨rfl,HB1.out⟩
 have f21:(k==21)=false:=beq_eq_false_iff_ne.2 k21
 rw[if_neg (by omega)]
 by_cases k22:k=22
 ·subst k22
  rw[if_pos rfl]
  clear HS
  go_enter Tryz.func220,Tryz.ntmps220
  go_wp2_with (go_at_call 216;refine HV.out.mono ?_)
  rintro e w2 ⟨rfl,hb2⟩
  have HB2:=hid (bt HB1.out hb2)
  clear hb2
  go_wp2
  go_ret
  exact⟨rfl,HB2.out⟩
 have f22:(k==22)=false:=beq_eq_false_iff_ne.2 k22
 rw[if_neg (by omega)]
 by_cases k25:k=25
 ·subst k25
  rw[if_pos rfl]
  clear HV HS
  go_enter Tryz.func220,Tryz.ntmps220
  go_wp2
  go_ret
  exact⟨rfl,HB1.out⟩
 have f25:(k==25)=false:=beq_eq_false_iff_ne.2 k25
 rw[if_neg (by omega)]
 by_cases k26:k=26
 ·subst k26
  rw[if_pos (by decide)]
  clear HV
  generalize sgnT tx=st at *
  go_enter Tryz.func220,Tryz.ntmps220
  go_wp2_with (go_at_call 259;refine HS.out.mono ?_)
  rintro e w2 ⟨rfl,hb2⟩
  have HB2:=hid (bt HB1.out hb2)
  clear hb2
  go_wp2
  go_ret
  exact⟨rfl,HB2.out⟩
 have f26:(k==26)=false:=beq_eq_false_iff_ne.2 k26
 by_cases k27:k=27
 ·subst k27
  rw[if_pos (by decide)]
  clear HV
  generalize sgnT tx=st at *
  go_enter Tryz.func220,Tryz.ntmps220
  go_wp2_with (go_at_call 259;refine HS.out.mono ?_)
  rintro e w2 ⟨rfl,hb2⟩
  have HB2:=hid (bt HB1.out hb2)
  clear hb2
  go_wp2
  go_ret
  exact⟨rfl,HB2.out⟩
 have f27:(k==27)=false:=beq_eq_false_iff_ne.2 k27
 rw[if_neg (by omega)]
 clear HV HS k20 k23 k24 k21 k22 k25 k26 k27
 go_enter Tryz.func220,Tryz.ntmps220
 go_wp2
 go_ret
 exact⟨rfl,HB1.out⟩
end
end Go.Proofs.YtedkgofehbecmaaGreatDoor
namespace Go.Proofs.YtedkgofehbecmaaGreatDoor
open Go.Lib (hid)
open Go Go.RowKit
open Tr (Bx heap1 bt Nds Ints VPost BPost Ib mkI make22)
section
variable {w:World} {l:List Tr.Nd} {A O:Option Addr} {n bd bp:Nat}
set_option maxRecDepth 100000 in
set_option maxHeartbeats 1500000 in
theorem areAll_any (h:Prg w l A n O bd bp)(c co:Nat)(K:Option Addr)(m cK:Nat)(ks:List Int)(t:Int)(hK:Ints w K ks)(hm:m=ks.length)(hks:∀x ∈ ks,0<=x/\x<(n:Int))(hml:m<=4000):Calls Tryz.prog 217 #[PrV A n c O co bd bp,.slice K m cK,.int .i64 t] w (BPost (areB l ks t) w):=by
 unfold PrV
 have hb0:=heap1 w (.cells #[.slice A n c,.slice O n co,.map (some bd),.map (some bp)] 87)
 have hX:=Bx.new w 87 [.slice A n c,.slice O n co,.map (some bd),.map (some bp)]
 obtain⟨W0,hW0⟩:∃W0,w.alloc (.cells #[.slice A n c,.slice O n co,.map (some bd),.map (some bp)] 87)=W0:=⟨_,rfl⟩
 rw[hW0]at hb0 hX
 have HX:=hid (And.intro hb0 hX)
 have HK:=hid hK
 have HM:=hid (And.intro hm hks)
 have HT:=hid (λW (hb:Below W0.heap.size W0 W) (k:Nat) (hk:k<n)=>typeE_any (h.below (bt hb0 hb)) c co k hk)
 unfold PrV at HT
 clear h hK hm hks hb0 hX
 go_enter Tryz.func217,Tryz.ntmps217
 go_wp2
 try rw[hW0]
 clear hW0
 go_loopg [11] m (λg a11 wr=>∃i:Nat,a11 = .int .i64 (i:Int)/\i<=m/\g=m-i/\(ks.take i).all (λk=>decide (typA l k.toNat=t))=true/\Below W0.heap.size W0 wr)
 case atStart=>exact⟨0,rfl,Nat.zero_le _,rfl,rfl,Below.refl _ _⟩
 case round=>
  obtain⟨i,rfl,hi,rfl,ht,hb⟩:=hrel
  have HB:=hid hb
  have HE:=hid ht
  by_cases hlt:i<m
  ·have hlz:(i:Int)<(m:Int):=by omega
   have hik:i<ks.length:=by rw[<- HM.out.1];exact hlt
   obtain⟨bK,oK,rfl,lK,cK⟩:=HK.out (by omega)
   obtain⟨hk0,hk1⟩:=HM.out.2 _ (List.getElem_mem hik)
   obtain⟨k,hk⟩:∃k:Nat,ks[i]=(k:Int):=⟨ks[i].toNat,by omega⟩
   have ck:wr.cell? ⟨bK,oK+i,none⟩=some (.int .i64 (k:Int)):=((bt HX.out.1 hb).cell (p:=⟨bK,oK+i,none⟩) lK).trans (by rw[cK i hik,hk])
   have hkn:k<n:=by omega
   have hB:=HX.out.2.below hb HX.out.2.lt
   have b0:=(hB.cell 0).trans rfl
   have b1:=(hB.cell 1).trans rfl
   have b2:=(hB.cell 2).trans rfl
   have b3:=(hB.cell 3).trans rfl
   have HC:=hid (HT.out wr hb k hkn)
   have HS:=hid (show(ks.take (i+1)).all (λk=>decide (typA l k.toNat=t))=decide (typA l k=t) by
    rw[List.take_succ_eq_append_getElem hik,List.all_append,ht,hk];simp)
   have HF:=hid (show typA l k≠t->areB l ks t=false from λe=>by
    unfold areB
    rw[Bool.eq_false_iff]
    intro h1
    have:=List.all_eq_true.1 h1 _ (List.getElem_mem hik)
    rw[hk]at this
    simp[e]at this)
   clear cK lK hk hb ht hB hk0 hk1 hkn hik
   generalize typA l k=ty at *
   by_cases e:ty=t
   ·have hne:(ty != t)=false:=by simp[e]
    have HR:=hid (show(ks.take (i+1)).all (λk=>decide (typA l k.toNat=t))=true by rw[HS.out,e];simp)
    clear HS HF e
    go_wp2_with (go_at_call 220;refine HC.out.mono ?_)
    rintro e w2 ⟨rfl,hb2⟩
    have HB2:=hid (bt HB.out hb2)
    clear hb2
    go_wp2
    go_roundg (m-(i+1))
    case measure=>go_light;omega
    case rel=>
     go_light
     exact⟨i+1,by go_num,by omega,rfl,HR.out,HB2.out⟩
   ·have hne:(ty != t)=true:=by simp[e]
    have HR:=hid (HF.out e)
    clear HS HF e
    go_wp2_with (go_at_call 220;refine HC.out.mono ?_)
    rintro e w2 ⟨rfl,hb2⟩
    have HB2:=hid (bt HB.out hb2)
    clear hb2
    go_wp2
    go_ret
    exact⟨congrArg (λz=>Ending.returned (Value.bool z)) HR.out.symm,bt HX.out.1 HB2.out⟩
  ·have hlz:¬(i:Int)<(m:Int):=by omega
   have HR:=hid (show areB l ks t=true by
    have h1:=HE.out
    rw[List.take_of_length_le (by have:=HM.out.1;omega)]at h1
    exact h1)
   clear hi hlt hb ht
   go_wp2
   go_ret
   exact⟨congrArg (λz=>Ending.returned (Value.bool z)) HR.out.symm,bt HX.out.1 HB.out⟩
def SlPost (xs:List Int)(w:World)(e:Ending)(w':World):Prop:=∃K c,e = .returned (.slice K xs.length c)/\Ints w' K xs/\Below w.heap.size w w'
set_option maxRecDepth 100000 in
set_option maxHeartbeats 1500000 in
theorem typesOf_any (h:Prg w l A n O bd bp)(c co:Nat)(K:Option Addr)(m cK:Nat)(ks:List Int)(hK:Ints w K ks)(hm:m=ks.length)(hks:∀x ∈ ks,0<=x/\x<(n:Int))(hml:m<=4000):Calls Tryz.prog 261 #[PrV A n c O co bd bp,.slice K m cK] w (SlPost (ks.map λk=>typA l k.toNat) w):=by
 unfold PrV
 have hb0:=heap1 w (.cells #[.slice A n c,.slice O n co,.map (some bd),.map (some bp)] 87)
 have hX:=Bx.new w 87 [.slice A n c,.slice O n co,.map (some bd),.map (some bp)]
 obtain⟨W0,hW0⟩:∃W0,w.alloc (.cells #[.slice A n c,.slice O n co,.map (some bd),.map (some bp)] 87)=W0:=⟨_,rfl⟩
 rw[hW0]at hb0 hX
 have hs0:W0.heap.size=w.heap.size+1:=by rw[<- hW0,World.size_alloc]
 have hI:Ib (W0.alloc (.cells (mkI m λ_=>0) 3)) W0.heap.size m (λ_=>0):=World.alloc_heap_new W0 _
 rw[hs0]at hI
 have hI0:Below W0.heap.size W0 (W0.alloc (.cells (mkI m λ_=>0) 3)):=heap1 _ _
 have HX:=hid (And.intro hb0 hX)
 have HI0:=hid (And.intro hI hI0)
 have HK:=hid hK
 have HM:=hid (And.intro hm hks)
 have HT:=hid (λW (hb:Below W0.heap.size W0 W) (k:Nat) (hk:k<n)=>typeE_any (h.below (bt hb0 hb)) c co k hk)
 unfold PrV at HT
 have hmk:=λw'=>make22 m (by omega) w'
 clear h hK hm hks hb0 hX hI hI0
 go_enter Tryz.func261,Tryz.ntmps261
 go_wp2
 try rw[hW0]
 clear hW0
 go_loopg [13] m (λg a13 wr=>∃(i:Nat) (f:Nat->Int),a13 = .int .i64 (i:Int)/\i<=m/\g=m-i/\Ib wr (w.heap.size+1) m f/\(∀j (hj:j<ks.length),j<i->f j=typA l (ks[j]).toNat)/\Below W0.heap.size W0 wr)
 case atStart=>exact⟨0,_,rfl,Nat.zero_le _,rfl,HI0.out.1,λj _ h=>absurd h (Nat.not_lt_zero _),HI0.out.2⟩
 case round=>
  obtain⟨i,f,rfl,hi,rfl,hIb,hf,hb⟩:=hrel
  have HB:=hid hb
  have HIB:=hid hIb
  have HF:=hid hf
  by_cases hlt:i<m
  ·have hlz:(i:Int)<(m:Int):=by omega
   have hik:i<ks.length:=by rw[<- HM.out.1];exact hlt
   obtain⟨bK,oK,rfl,lK,cK⟩:=HK.out (by omega)
   obtain⟨hk0,hk1⟩:=HM.out.2 _ (List.getElem_mem hik)
   obtain⟨k,hk⟩:∃k:Nat,ks[i]=(k:Int):=⟨ks[i].toNat,by omega⟩
   have ck:wr.cell? ⟨bK,oK+i,none⟩=some (.int .i64 (k:Int)):=((bt HX.out.1 hb).cell (p:=⟨bK,oK+i,none⟩) lK).trans (by rw[cK i hik,hk])
   have hkn:k<n:=by omega
   have hB:=HX.out.2.below hb HX.out.2.lt
   have b0:=(hB.cell 0).trans rfl
   have b1:=(hB.cell 1).trans rfl
   have b2:=(hB.cell 2).trans rfl
   have b3:=(hB.cell 3).trans rfl
   have HC:=hid (HT.out wr hb k hkn)
   have HG:=hid (show∀j (hj:j<ks.length),j<i+1->(if j=i then typA l k else f j)=typA l (ks[j]).toNat from λj hj h1=>by
    by_cases e:j=i
    ·subst e;rw[if_pos rfl,hk];rfl
    ·rw[if_neg e];exact hf j hj (by omega))
   clear cK lK hk hb hf hB hk0 hk1 hkn hik hIb HF
   generalize typA l k=ty at *
   go_wp2_with (go_at_call 220;refine HC.out.mono ?_)
   rintro e w2 ⟨rfl,hb2⟩
   have hI2:=HIB.out.below hb2 HIB.out.lt
   have j0:=hI2.cell hlt
   have j1:=hI2.frozen i
   have HB2:=hid (And.intro (bt HB.out hb2) hI2)
   clear hb2 hI2
   go_wp2
   go_roundg (m-(i+1))
   case measure=>go_light;omega
   case rel=>
    go_light
    exact⟨i+1,_,by go_num,by omega,rfl,HB2.out.2.set_ i ty,HG.out,HB2.out.1.setCell (p:=⟨w.heap.size+1,i,none⟩) (by show W0.heap.size<=w.heap.size+1;omega) _⟩
  ·have hlz:¬(i:Int)<(m:Int):=by omega
   have HR:=hid (show Ints wr (some ⟨w.heap.size+1,0,none⟩) (ks.map λk=>typA l k.toNat)from λ_=>⟨_,0,rfl,hIb.lt,λj hj=>by
    have hj2:j<ks.length:=by simpa using hj
    rw[Nat.zero_add,hIb.cell (by have:=HM.out.1;omega),hf j hj2 (by have:=HM.out.1;omega)];simp⟩)
   have hml2:m=(ks.map λk=>typA l k.toNat).length:=by rw[List.length_map];exact HM.out.1
   have HL:=hid hml2
   clear hi hlt hb hf hIb hml2
   go_wp2
   go_ret
   exact⟨some ⟨w.heap.size+1,0,none⟩,m,by rw[<- HL.out];try rfl,HR.out,bt HX.out.1 HB.out⟩
end
end Go.Proofs.YtedkgofehbecmaaGreatDoor
