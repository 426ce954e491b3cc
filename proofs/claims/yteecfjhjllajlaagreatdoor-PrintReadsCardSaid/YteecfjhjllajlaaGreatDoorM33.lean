/- PROVED: Ua Ub TkQ TkX Uc Vh. No more condition. -/
import Derived.Lib.Join
import Derived.Test.YteecfjhjllajlaaGreatDoorM32
namespace Go.Proofs.YteecfjhjllajlaaGreatDoor
open Go.Lib (hid)
open Go Go.RowKit
def je (t:Tok):Tok := {t with p:=0}
def JM (x:Nd):Nd := {x with pl:=0}
def jB (s:St):St := {s with nd:=s.nd.map JM}
def jD:Rs->Rs
 | .out =>.out
 | .no _ e =>.no 0 e
 | .ok v s =>.ok v (jB s)
def S9:nM->nM
 | .stmts _ a =>.stmts 0 a
 |j=>j
theorem az {r r':Rs}{k k':List Int->St->Rs}(h0:r'=jD r)(h:∀v s,k' v (jB s)=jD (k v s)):r'.bind k'=jD (r.bind k):=by
 subst h0;cases r with
 |out=>rfl
 |no p e=>rfl
 |ok v s=>exact h v s
theorem bz {c c':Prop}[Decidable c][Decidable c']{a b a' b':Rs}(hc:c'↔c)(h1:a'=jD a)(h2:b'=jD b):(if c' then a' else b')=jD (if c then a else b):=by
 by_cases q:c
 ·rw[if_pos q,if_pos (hc.2 q)];exact h1
 ·rw[if_neg q,if_neg (λr=>q (hc.1 r))];exact h2
section
variable (ts:List Tok)
theorem vL (s:St):ah (ts.map je) (jB s)=je (ah ts s):=by
 unfold ah;rw[List.getD_eq_getElem?_getD,List.getD_eq_getElem?_getD,List.getElem?_map];show((ts[s.nx]?).map je).getD _=_;cases ts[s.nx]?<;>rfl
theorem Mh (s:St):(ah (ts.map je) (jB s)).k=(ah ts s).k:=by rw[vL];rfl
theorem SE (s:St):(ah (ts.map je) (jB s)).n=(ah ts s).n:=by rw[vL];rfl
theorem rR (s:St):(ah (ts.map je) (jB s)).s=(ah ts s).s:=by rw[vL];rfl
theorem mO (s:St):(ah (ts.map je) (jB s)).p=0:=by rw[vL];rfl
theorem yQ (x:List UInt8)(s:St):sees (ts.map je) x (jB s)=sees ts x s:=by unfold sees;rw[rR]
theorem jX (s:St):ae (jB s)=jB (ae s):=rfl
theorem fU (x:List UInt8)(s:St):sees (ts.map je) x (jB s)=true↔sees ts x s=true:=by rw[yQ]
theorem dB (kd n pl:Int)(tx:List UInt8)(ks:List Int)(s:St):bv kd n 0 tx ks (jB s)=jD (bv kd n pl tx ks s):=by
 unfold bv;show Rs.ok [((s.nd.map JM).length:Int)] _=Rs.ok _ _;rw[List.length_map];show Rs.ok _ _=Rs.ok _ (jB _);unfold jB;simp only[List.map_append,List.map_cons,List.map_nil];rfl
theorem Ae (s:St)(e:Nat):Rs.no (ah (ts.map je) (jB s)).p e=jD (.no (ah ts s).p e):=by rw[mO];rfl
theorem nG (x:List UInt8)(s:St):gI (ts.map je) x (jB s)=jD (gI ts x s):=by
 unfold gI;exact bz (fU ts x s) rfl (Ae ts s 2)
theorem nH (s:St):eU (ts.map je) (jB s)=jD (eU ts s):=by
 unfold eU;exact bz (by rw[Mh]) rfl (Ae ts s 2)
theorem IR (s:St):kZ (ts.map je) (jB s)=jD (kZ ts s):=by
 unfold kZ;exact bz (by rw[Mh]) rfl (Ae ts s 2)
theorem qy (x:List UInt8)(s:St):gL (ts.map je) x (jB s)=jD (gL ts x s):=by
 unfold gL;exact bz (by rw[yQ];rfl) (Ae ts s 6) (az (nG ts x s) λ_ _=>rfl)
theorem vM (x:List UInt8)(s:St):jd (ts.map je) x (jB s)=jD (jd ts x s):=by
 unfold jd;exact az (nG ts x s) λ_ _=>rfl
theorem Dq (s:St):iG (ts.map je) (jB s)=jD (iG ts s):=by
 unfold iG;simp only[rR];exact bz Iff.rfl (Ae ts s 2) rfl
end
section
variable {ts:List Tok} {rec rec':nM->St->Rs} (hr:∀j s,rec' (S9 j) (jB s)=jD (rec j s))
theorem yR (kd:Nat)(s:St):gD (ts.map je) kd (jB s)=jD (gD ts kd s):=by
 unfold gD;simp only[rR,mO];exact az (nH ts s) λ_ s=>dB ..
theorem Dr (kd:Nat)(s:St):fO (ts.map je) kd (jB s)=jD (fO ts kd s):=by
 unfold fO;simp only[jX,rR,mO];exact az (nH ts _) λ_ s=>dB ..
theorem Af (kd:Nat)(pl:Int)(s:St):d9 (ts.map je) kd 0 (jB s)=jD (d9 ts kd pl s):=by
 unfold d9;simp only[rR];exact az (nH ts s) λ_ s=>az (Dq ts s) λn s=>dB ..
theorem Ag (s:St):iy (ts.map je) (jB s)=jD (iy ts s):=by
 unfold iy;rw[mO];exact Af ..
theorem mP (v:List Int)(s:St):bL (ts.map je) v (jB s)=jD (bL ts v s):=by
 unfold bL;exact az (nG ts _ s) λ_ _=>rfl
include hr
theorem ic (s:St):a_ rec' (jB s)=jD (a_ rec s):=hr (.bin 1) s
theorem IU (s:St):kN (ts.map je) rec' (jB s)=jD (kN ts rec s):=by
 unfold kN;exact az (qy ts _ s) λ_ s=>az (ic hr s) λv s=>az (vM ts _ s) λ_ s=>rfl
theorem Mi (s:St):gM (ts.map je) rec' (jB s)=jD (gM ts rec s):=by
 unfold gM;simp only[rR,mO];exact az (nH ts s) λ_ s=>bz (fU ..) (az (IU hr s) λv s=>dB ..) (dB ..)
theorem Mj (s:St):gN (ts.map je) rec' (jB s)=jD (gN ts rec s):=by
 unfold gN;simp only[rR,mO];exact az (qy ts _ s) λ_ s=>az (hr .una s) λv s=>dB (s := {s with op:=s.op-1}) ..
theorem PP (s:St):bg (ts.map je) rec' (jB s)=jD (bg ts rec s):=by
 unfold bg;simp only[Mh,SE,rR,mO,jX];refine bz Iff.rfl (Mi hr s) ?_;refine bz Iff.rfl (dB ..) ?_;refine bz Iff.rfl (Mj hr s) ?_;refine bz Iff.rfl (dB ..) ?_;refine bz Iff.rfl (Dr 24 s) ?_;refine bz Iff.rfl (Dr 25 s) ?_;refine bz Iff.rfl (az (qy ts _ s) λ_ s=>az (ic hr s) λv s=>az (vM ts _ s) λ_ s=>rfl) rfl
theorem Mk (r:Nat)(s:St):iF rec' r (jB s)=jD (iF rec r s):=by
 unfold iF;exact bz Iff.rfl (hr .una s) (az (hr (.bin (r+1)) s) λv s=>hr (.loop r v) s)
theorem Ml (r:Nat)(l:List Int)(s:St):iY (ts.map je) rec' r l (jB s)=jD (iY ts rec r l s):=by
 unfold iY;simp only[rR,mO,jX];exact bz Iff.rfl (az (hr (.bin (r+1)) _) λv s=>az (dB ..) λv s=>hr (.loop r v) s) rfl
theorem IV (a:List Int)(s:St):eY (ts.map je) rec' a (jB s)=jD (eY ts rec a s):=by
 unfold eY;exact bz (fU ..) (az (ic hr (ae s)) λv s=>hr (.exprs (a++v)) s) (az (vM ts _ s) λ_ s=>rfl)
theorem Mm (s:St):jk (ts.map je) rec' (jB s)=jD (jk ts rec s):=by
 unfold jk;exact az (qy ts _ s) λ_ s=>bz (fU ..) (hr (.exprs []) s) (az (ic hr s) λv s=>hr (.exprs v) s)
theorem Dt (tx:List UInt8)(pl:Int)(s:St):gF (ts.map je) rec' tx 0 (jB s)=jD (gF ts rec tx pl s):=by
 unfold gF;exact az (nG ts _ s) λ_ s=>az (yR 19 s) λv s=>az (Mm hr s) λu s=>dB ..
theorem oI (s:St):dm (ts.map je) rec' (jB s)=jD (dm ts rec s):=by
 unfold dm;simp only[mO];exact az (qy ts _ s) λ_ s'=>hr (.stmts (ah ts s).p []) s'
theorem IW (pl:Int)(a:List Int)(s:St):gu (ts.map je) rec' 0 a (jB s)=jD (gu ts rec pl a s):=by
 unfold gu;exact bz (fU ..) (az (vM ts _ s) λ_ s=>dB ..) (az (hr .stmt s) λv s=>hr (.stmts pl (a++v)) s)
theorem Mo (t:Tok)(s:St):bJ (ts.map je) rec' (je t) (jB s)=jD (bJ ts rec t s):=by
 unfold bJ;simp only[rR,jX,je];refine bz Iff.rfl (az (yR 18 _) λv s=>dB ..) ?_;refine bz Iff.rfl (Dt hr t.s t.p s) ?_;exact bz Iff.rfl (az (ic hr _) λv s=>dB ..) (az (ic hr s) λv s=>dB ..)
theorem IX (s:St):dZ (ts.map je) rec' (jB s)=jD (dZ ts rec s):=by
 unfold dZ;simp only[rR,mO];refine az (nH ts s) λ_ s1 =>?_
 refine bz (fU ..) (az (IU hr s1) λi s=>az (nG ts _ s) λ_ s=>az (ic hr s) λv s=>az (dB ..) λv s=>mP v s) ?_;refine az (nG ts _ s1) λ_ s2 =>?_
 rw[vL];exact az (Mo hr _ s2) λv s=>mP v s
theorem PQ (s:St):l_ (ts.map je) rec' (jB s)=jD (l_ ts rec s):=by
 unfold l_;simp only[mO,jX];exact az (yR 18 _) λc s=>az (ic hr s) λv s=>az (dB ..) λv s=>mP v s
theorem RO (s:St):wI (ts.map je) rec' (jB s)=jD (wI ts rec s):=by
 unfold wI;simp only[mO,jX];exact az (ic hr _) λc s=>az (oI hr s) λa s=>bz (fU ..) (az (oI hr (ae s)) λb s=>dB ..) (az (dB ..) λb s=>dB ..)
theorem IY (s:St):iw (ts.map je) rec' (jB s)=jD (iw ts rec s):=by
 unfold iw;simp only[mO,jX];exact az (ic hr _) λc s=>az (oI hr s) λa s=>dB ..
theorem EP (s:St):cO (ts.map je) rec' (jB s)=jD (cO ts rec s):=by
 unfold cO;simp only[mO,jX,yQ];exact bz Iff.rfl (dB ..) (az (ic hr _) λv s=>dB ..)
theorem IZ (s:St):iP (ts.map je) rec' (jB s)=jD (iP ts rec s):=by
 unfold iP;simp only[mO,jX];exact az (ic hr _) λv s=>dB ..
theorem PR (s:St):ma (ts.map je) rec' (jB s)=jD (ma ts rec s):=by
 unfold ma;simp only[mO,jX];refine az (oI hr _) λa s=>az (nG ts _ s) λ_ s =>?_
 simp only[rR];exact az (nH ts s) λ_ s=>az (oI hr s) λb s=>dB ..
theorem Mq (s:St):aO (ts.map je) rec' (jB s)=jD (aO ts rec s):=by
 unfold aO;simp only[Mh,rR,mO];refine bz Iff.rfl (IX hr s) ?_;refine bz Iff.rfl (PQ hr s) ?_;refine bz Iff.rfl (RO hr s) ?_;refine bz Iff.rfl (IY hr s) ?_;refine bz Iff.rfl (az (Dt hr [] _ s) λv s=>mP v s) ?_;refine bz Iff.rfl (az (EP hr s) λv s=>mP v s) ?_;refine bz Iff.rfl (az (IZ hr s) λv s=>mP v s) ?_;exact bz Iff.rfl (PR hr s) rfl
theorem Mr (kd:Nat)(a:List Int)(s:St):jC (ts.map je) rec' kd a (jB s)=jD (jC ts rec kd a s):=by
 unfold jC;rw[mO];exact bz (fU ..) (az (Af kd _ (ae s)) λv s=>az (nG ts _ s) λ_ s=>hr (.vars kd (a++v)) s) rfl
theorem EQ (a:List Int)(s:St):dD (ts.map je) rec' a (jB s)=jD (dD ts rec a s):=by
 unfold dD;exact bz (fU ..) (az (Ag (ae s)) λv s=>hr (.params (a++v)) s) (az (vM ts _ s) λ_ s=>rfl)
theorem I1 (s:St):gy (ts.map je) rec' (jB s)=jD (gy ts rec s):=by
 unfold gy;exact az (qy ts _ s) λ_ s=>bz (fU ..) (hr (.params []) s) (az (Ag s) λv s=>hr (.params v) s)
theorem Ms (s:St):jl (ts.map je) rec' (jB s)=jD (jl ts rec s):=by
 unfold jl;simp only[mO];refine az (nG ts _ s) λ_ s1 =>?_
 simp only[rR];refine az (nH ts s1) λ_ s2=>az (I1 hr s2) λps s3 =>?_
 refine az (bz (fU ..) rfl (Dq ts s3)) λn s4 =>?_
 simp only[mO];exact az (qy ts _ s4) λ_ s5=>az (hr (.vars 5 []) s5) λvs s6=>az (hr (.stmts (ah ts s4).p []) s6) λbl s7=>dB ..
theorem I4 (a:List Int)(s:St):gz (ts.map je) rec' a (jB s)=jD (gz ts rec a s):=by
 unfold gz;exact bz (fU ..) (az (Ms hr s) λv s=>hr (.procs (a++v)) s) rfl
theorem BU (s:St):bT (ts.map je) rec' (jB s)=jD (bT ts rec s):=by
 unfold bT;exact az (hr (.vars 2 []) s) λvs s=>az (hr (.procs vs) s) λps s=>az (IR ts s) λ_ s=>dB ..
theorem Mt (s:St):jm (ts.map je) rec' (jB s)=jD (jm ts rec s):=by
 unfold jm;exact az (ic hr s) λv s=>az (IR ts s) λ_ s=>rfl
end
theorem BV (ts:List Tok):∀(f:Nat) (j:nM) (s:St),run (ts.map je) f (S9 j) (jB s)=jD (run ts f j s)
 |0,_,_=>rfl
 |f+1,j,s=>by
  have ih:=BV ts f;cases j with
  |una=>exact PP ih s
  |bin r=>exact Mk ih r s
  |loop r l=>exact Ml ih r l s
  |exprs a=>exact IV ih a s
  |stmt=>exact Mq ih s
  |stmts p a=>exact IW ih p a s
  |vars k a=>exact Mr ih k a s
  |params a=>exact EQ ih a s
  |procs a=>exact I4 ih a s
theorem Du (ts:List Tok):iH (ts.map je)=jD (iH ts):=by
 unfold iH steps;rw[List.length_map];exact BU (BV ts _) st0
theorem Ah (ts:List Tok):gP (ts.map je)=jD (gP ts):=by
 unfold gP steps;rw[List.length_map];exact Mt (BV ts _) st0
theorem Mv {ts us:List Tok}(h:ts.map je=us.map je):jD (iH ts)=jD (iH us):=by rw[<- Du,<- Du,h]
theorem Mw {ts us:List Tok}(h:ts.map je=us.map je):jD (gP ts)=jD (gP us):=by rw[<- Ah,<- Ah,h]
section
set_option maxHeartbeats 1500000
set_option maxRecDepth 100000
open Tr (Bx aa bt au aP ax aA eH Ints)
theorem ER (K M:Option Addr)(n c d:Nat)(ks:List Int)(w:World)(hK:Ints w K ks)(hM:Ints w M ks)(hn:n=ks.length)(hl:n<=100000):Calls Tryz.prog 137 #[.slice K n c,.slice M n d] w (Tr.dK true w):=by
 have HK:=hid hK;have HM:=hid hM;have HN:=hid hn;clear hK hM hn;go_enter Tryz.func137,Tryz.ntmps137
 go_wp2
 go_loopg [13] n (λg a13 wr=>∃i:Nat,a13=.int .i64 (i:Int)/\i<=n/\g=n-i/\Below w.heap.size w wr)
 case atStart=>exact⟨0,rfl,Nat.zero_le _,rfl,Below.refl _ _⟩
 case round=>
  obtain⟨i,rfl,hi,rfl,hb⟩:=hrel;have HB:=hid hb;by_cases hlt:i<n
  ·have hlz:(i:Int)<(n:Int):=by omega
   have hik:i<ks.length:=by rw[<- HN.out];exact hlt
   obtain⟨bK,oK,rfl,lK,cK⟩:=HK.out (by omega);obtain⟨bM,oM,rfl,lM,cM⟩:=HM.out (by omega);obtain⟨x,hx⟩:∃x,x=ks[i]:=⟨_,rfl⟩;have c1:wr.cell? ⟨bK,oK+i,none⟩=some (.int .i64 x):=(HB.out.cell (p:=⟨bK,oK+i,none⟩) lK).trans (by rw[hx];exact cK i hik);have c2:wr.cell? ⟨bM,oM+i,none⟩=some (.int .i64 x):=(HB.out.cell (p:=⟨bM,oM+i,none⟩) lM).trans (by rw[hx];exact cM i hik);clear cK cM lK lM hx hb;go_wp2_with fail
   go_quiet (fail)
   go_wp2
   go_roundg (n-(i+1))
   case measure=>go_light;omega
   case rel=>
    go_light
    exact⟨i+1,by go_num,by omega,rfl,Tk.below_drewN HB.out _⟩
  ·have hlz:¬(i:Int)<(n:Int):=by omega
   clear hi hlt hb;go_wp2
   go_ret
   exact⟨rfl,HB.out⟩
theorem ES (K M:Option Addr)(m c d:Nat)(ks:List Int)(kd n pl pl':Int)(tx:ByteArray)(w:World)(hK:Ints w K ks)(hM:Ints w M ks)(hm:m=ks.length)(hl:m<=100000):Calls Tryz.prog 76 #[.agg #[.int .i64 kd,.int .i64 n,.int .i64 pl,.string tx,.slice K m c],.agg #[.int .i64 kd,.int .i64 n,.int .i64 pl',.string tx,.slice M m d]] w (Tr.dK true w):=by
 have HI:=hid (λw' (q:Below w.heap.size w w')=>ER K M m c d ks w' (hK.below q) (hM.below q) hm hl);clear hK hM hm hl;go_enter Tryz.func76,Tryz.ntmps76
 go_wp2_with (go_at_call 137;refine(HI.out _ (bt (aa _ _) (aa _ _))).mono ?_;rintro e w1 ⟨rfl,hb1⟩)
 go_ret
 exact⟨rfl,bt (bt (aa _ _) (aa _ _)) hb1⟩
def bD (l m:List Tr.Nd):Prop:=l.map (λx=>(x.kd,x.n,x.tx,x.ks))=m.map (λx=>(x.kd,x.n,x.tx,x.ks))
theorem bD.at_ {l m:List Tr.Nd}(h:bD l m)(i:Nat)(hi:i<l.length):∃hj:i<m.length,l[i].kd=m[i].kd/\l[i].n=m[i].n/\l[i].tx=m[i].tx/\l[i].ks=m[i].ks:=by
 have hl:l.length=m.length:=by have:=congrArg List.length h;simpa using this
 refine⟨hl▸hi,?_⟩;have e:=congrArg (λz=>z[i]?) h;simp only[List.getElem?_map,List.getElem?_eq_getElem hi,List.getElem?_eq_getElem (hl▸hi),Option.map_some,Option.some.injEq,Prod.mk.injEq]at e;exact e
theorem I5 (A B:Option Addr)(n c d:Nat)(l m:List Tr.Nd)(w:World)(hA:eH w A l)(hB:eH w B m)(hL:bD l m)(hn:n=l.length)(hl:n<=4000)(hk:∀x ∈ l,x.ks.length<=4000):Calls Tryz.prog 75 #[.slice A n c,.slice B n d,.func (.func 76) #[] #[]] w (Tr.dK true w):=by
 have HA:=hid hA;have HB:=hid hB;have HL:=hid hL;have HN:=hid hn;have HK:=hid hk;clear hA hB hL hn hk;go_enter Tryz.func75,Tryz.ntmps75
 go_wp2
 go_loopg [17] n (λg a17 wr=>∃i:Nat,a17=.int .i64 (i:Int)/\i<=n/\g=n-i/\Below w.heap.size w wr)
 case atStart=>exact⟨0,rfl,Nat.zero_le _,rfl,Below.refl _ _⟩
 case round=>
  obtain⟨i,rfl,hi,rfl,hb⟩:=hrel;have HW:=hid hb;by_cases hlt:i<n
  ·have hlz:(i:Int)<(n:Int):=by omega
   have hil:i<l.length:=by rw[<- HN.out];exact hlt
   obtain⟨him,e1,e2,e3,e4⟩:=HL.out.at_ i hil;obtain⟨b1,o1,rfl,l1,q1⟩:=HA.out (by omega);obtain⟨b2,o2,rfl,l2,q2⟩:=HB.out (by omega);obtain⟨K,cK,k0,k1,k2,k3,k4,hK⟩:=q1 i hil;obtain⟨M,cM,m0,m1,m2,m3,m4,hM⟩:=q2 i him;rw[<- e1]at m0;rw[<- e2]at m1;rw[<- e3]at m3;rw[<- e4]at m4 hM;have hkl:=HK.out _ (List.getElem_mem hil);have ck0:=(hb.cell (p:=⟨b1,o1+i*5,none⟩) l1).trans k0;have ck1:=(hb.cell (p:=⟨b1,o1+i*5+1,none⟩) l1).trans k1;have ck2:=(hb.cell (p:=⟨b1,o1+i*5+2,none⟩) l1).trans k2;have ck3:=(hb.cell (p:=⟨b1,o1+i*5+3,none⟩) l1).trans k3;have ck4:=(hb.cell (p:=⟨b1,o1+i*5+4,none⟩) l1).trans k4;have cm0:=(hb.cell (p:=⟨b2,o2+i*5,none⟩) l2).trans m0;have cm1:=(hb.cell (p:=⟨b2,o2+i*5+1,none⟩) l2).trans m1;have cm2:=(hb.cell (p:=⟨b2,o2+i*5+2,none⟩) l2).trans m2;have cm3:=(hb.cell (p:=⟨b2,o2+i*5+3,none⟩) l2).trans m3;have cm4:=(hb.cell (p:=⟨b2,o2+i*5+4,none⟩) l2).trans m4;have lt1:b1<wr.heap.size:=Nat.lt_of_lt_of_le l1 hb.size;have lt2:b2<wr.heap.size:=Nat.lt_of_lt_of_le l2 hb.size;have HC:=hid (λw' (q:Below w.heap.size w w')=>ES K M l[i].ks.length cK cM l[i].ks l[i].kd l[i].n l[i].pl m[i].pl l[i].tx w' (hK.below q) (hM.below q) rfl (by omega));generalize l[i].kd=kd at *
   generalize l[i].n=nn at *
   generalize l[i].pl=pl at *
   generalize m[i].pl=pl2 at *
   generalize l[i].tx=tx at *
   generalize l[i].ks.length=kl at *
   clear e1 e2 e3 e4 q1 q2 k0 k1 k2 k3 k4 m0 m1 m2 m3 m4 hK hM hb l1 l2;clear hkl hil him hi;go_wp2_with (go_at_call 76;refine(HC.out _ (bt HW.out (bt (aa _ _) (aa _ _)))).mono ?_;rintro e w1 ⟨rfl,hb1⟩)
   go_roundg (n-(i+1))
   case measure=>go_light;omega
   case rel=>
    go_light
    exact⟨i+1,by go_num,by omega,rfl,bt (bt HW.out (bt (aa _ _) (aa _ _))) hb1⟩
  ·have hlz:¬(i:Int)<(n:Int):=by omega
   clear hi hlt hb;go_wp2
   go_ret
   exact⟨rfl,HW.out⟩
theorem Ai (A B:Option Addr)(n c d:Nat)(r:Int)(l m:List Tr.Nd)(w:World)(hA:eH w A l)(hB:eH w B m)(hL:bD l m)(hn:n=l.length)(hl:n<=4000)(hk:∀x ∈ l,x.ks.length<=4000):Calls Tryz.prog 28 #[.agg #[.slice A n c,.int .i64 r],.agg #[.slice B n d,.int .i64 r]] w (Tr.dK true w):=by
 have HE:=hid (λw' (q:Below w.heap.size w w')=>I5 A B n c d l m w' (hA.below q) (hB.below q) hL hn hl hk);clear hA hB hL hn hl hk;go_enter Tryz.func28,Tryz.ntmps28
 go_wp2_with (go_at_call 75;refine(HE.out _ (bt (aa _ _) (aa _ _))).mono ?_;rintro e w1 ⟨rfl,hb1⟩)
 go_ret
 exact⟨rfl,bt (bt (aa _ _) (aa _ _)) hb1⟩
end
end Go.Proofs.YteecfjhjllajlaaGreatDoor
namespace Go.Proofs.YteecfjhjllajlaaGreatDoor.Tk
open Go.Lib (hid)
open Go Go.RowKit
def pc:List UInt8->List UInt8
 | []=>[]
 |c :: t=>if wdB c then c :: t.takeWhile wdB else match t with
  | []=>[c]
  |d :: _=>if dJ [c,d] then [c,d] else [c]
theorem qz (c:UInt8)(t:List UInt8):1<=(pc (c :: t)).length:=by
 cases t with
 |nil=>simp only[pc];split<;>simp
 |cons d t=>
  simp only[pc];split
  ·simp
  ·split<;>simp
def I6 (i:Nat)(w:List UInt8):Tok:=⟨cB w,jA w,i,w⟩
def Ak:Nat->Nat->List UInt8->wX
 |0,i,_ =>.ok [ql i]
 |_+1,i,[] =>.ok [ql i]
 |f+1,i,c :: t=>
  if kz c then Ak f (i+1) t
  else if pK c then Ak f (i+1+(t.takeWhile wu).length) (t.dropWhile wu)
  else if cB (pc (c :: t))=0 then .bad i
  else (Ak f (i+(pc (c :: t)).length) ((c :: t).drop (pc (c :: t)).length)).pre [I6 i (pc (c :: t))]
theorem nI {q:UInt8->Bool}(t:List UInt8):(t.dropWhile q).length<=t.length:=(List.dropWhile_suffix q).length_le
theorem mQ:∀(f i:Nat) (r:List UInt8) (g:Nat),r.length<=f->r.length<=g->Ak f i r=Ak g i r
 |0,i,[],0,_,_=>rfl
 |0,i,[],g+1,_,_=>rfl
 |f+1,i,[],0,_,_=>rfl
 |f+1,i,[],g+1,_,_=>rfl
 |f+1,i,c :: t,g+1,h1,h2=>by
  have a1:t.length<=f:=by simpa using h1
  have a2:t.length<=g:=by simpa using h2
  have hd:=nI (q:=wu) t;have hp:=qz c t;have hl:((c :: t).drop (pc (c :: t)).length).length<=t.length:=by rw[List.length_drop,List.length_cons];omega
  simp only[Ak];rw[mQ f (i+1) t g a1 a2,mQ f _ (t.dropWhile wu) g (by omega) (by omega),mQ f _ ((c :: t).drop (pc (c :: t)).length) g (by omega) (by omega)]
def lg (i:Nat)(r:List UInt8):wX:=Ak r.length i r
theorem pq (i:Nat)(c:UInt8)(t:List UInt8):lg i (c :: t)=if kz c then lg (i+1) t
  else if pK c then lg (i+1+(t.takeWhile wu).length) (t.dropWhile wu)
  else if cB (pc (c :: t))=0 then .bad i
  else (lg (i+(pc (c :: t)).length) ((c :: t).drop (pc (c :: t)).length)).pre [I6 i (pc (c :: t))]:=by
 have hd:=nI (q:=wu) t;have hp:=qz c t;have hl:((c :: t).drop (pc (c :: t)).length).length<=t.length:=by rw[List.length_drop,List.length_cons];omega
 unfold lg;rw[List.length_cons];simp only[Ak];rw[mQ t.length _ (t.dropWhile wu) (t.dropWhile wu).length (by omega) (by omega),mQ t.length _ ((c :: t).drop (pc (c :: t)).length) ((c :: t).drop (pc (c :: t)).length).length (by omega) (by omega)]
theorem rT {i:Nat}{c:UInt8}{t:List UInt8}(h:kz c=true):lg i (c :: t)=lg (i+1) t:=by rw[pq,if_pos h]
theorem yS {i:Nat}{c:UInt8}{t:List UInt8}(h1:kz c=false)(h2:pK c=true):lg i (c :: t)=lg (i+1+(t.takeWhile wu).length) (t.dropWhile wu):=by
 rw[pq,if_neg (by rw[h1];simp),if_pos h2]
theorem vN {i:Nat}{c:UInt8}{t:List UInt8}(h1:kz c=false)(h2:pK c=false)(h3:cB (pc (c :: t))=0):lg i (c :: t)=.bad i:=by
 rw[pq,if_neg (by rw[h1];simp),if_neg (by rw[h2];simp),if_pos h3]
theorem rU {i:Nat}{c:UInt8}{t:List UInt8}(h1:kz c=false)(h2:pK c=false)(h3:cB (pc (c :: t))≠0) :
  lg i (c :: t)=(lg (i+(pc (c :: t)).length) ((c :: t).drop (pc (c :: t)).length)).pre [I6 i (pc (c :: t))]:=by
 rw[pq,if_neg (by rw[h1];simp),if_neg (by rw[h2];simp),if_neg h3]
theorem tO:∀(i:Nat) (t:List UInt8),lg (i+(t.takeWhile kz).length) (t.dropWhile kz)=lg i t
 |i,[]=>rfl
 |i,c :: t=>by
  by_cases h:kz c=true
  ·rw[List.takeWhile_cons,List.dropWhile_cons,if_pos h,if_pos h,rT h,List.length_cons,<- tO (i+1) t];congr 1;omega
  ·rw[List.takeWhile_cons,List.dropWhile_cons,if_neg h,if_neg h];rfl
theorem drop_tw {q:UInt8->Bool}:∀t:List UInt8,t.drop (t.takeWhile q).length=t.dropWhile q
 | []=>rfl
 |c :: t=>by
  by_cases h:q c=true
  ·rw[List.takeWhile_cons,List.dropWhile_cons,if_pos h,if_pos h,List.length_cons,List.drop_succ_cons,drop_tw t]
  ·rw[List.takeWhile_cons,List.dropWhile_cons,if_neg h,if_neg h];rfl
theorem Dv {q:UInt8->Bool}:∀t:List UInt8,t.take (t.takeWhile q).length=t.takeWhile q
 | []=>rfl
 |c :: t=>by
  by_cases h:q c=true
  ·rw[List.takeWhile_cons,if_pos h,List.length_cons,List.take_succ_cons,Dv t]
  ·rw[List.takeWhile_cons,if_neg h];rfl
theorem drop_at {l:List UInt8}{p:Nat}(h:p<l.length):l.drop p=l.getD p 0 :: l.drop (p+1):=by
 rw[List.drop_eq_getElem_cons h,List.getD_eq_getElem?_getD,List.getElem?_eq_getElem h];rfl
theorem Mx {l:List UInt8}{p:Nat}(h:p<l.length)(h1:kz (l.getD p 0)=false)(h2:pK (l.getD p 0)=false):sub l p (jb l p)=pc (l.drop p)/\jb l p=p+(pc (l.drop p)).length:=by
 unfold sub jb;rw[drop_at h];generalize hc:l.getD p 0=c at *
 simp only[h1,h2,Bool.false_eq_true,if_false,pc];by_cases h3:wdB c=true
 ·rw[if_pos h3,if_pos h3];refine⟨?_,by simp;omega⟩;rw[show p+1+((l.drop (p+1)).takeWhile wdB).length-p=((l.drop (p+1)).takeWhile wdB).length+1 by omega,List.take_succ_cons,Dv]
 ·rw[if_neg h3,if_neg h3];cases ht:l.drop (p+1) with
  |nil=>
   have:¬p+1<l.length:=by
    have:=congrArg List.length ht;simp at this;omega
   rw[if_neg (λhh=>this hh.2)];simp
  |cons d t=>
   have hl:p+1<l.length:=by
    have:=congrArg List.length ht;simp at this;omega
   have e:List.take 2 (c :: d :: t)=[c,d]:=rfl;rw[e];by_cases h4:dJ [c,d]=true
   ·simp only[h4,hl];simp;rw[show p+1+1-p=2 by omega];rfl
   ·rw[if_neg (λhh=>h4 hh.1)];simp only[h4];simp
theorem xm (l:List UInt8):∀(n p:Nat),l.length-p<=n->p<=l.length->fT l p=lg p (l.drop p)
 |n,p,hn,hp=>by
  by_cases h:p<l.length
  ·have hB:=eD h;rw[o8 h];cases n with
   |zero=>omega
   |succ n=>
    have ih:=xm l n (jb l p) (by omega) hB.2;rw[ih];cases h1:kz (l.getD p 0)
    ·cases h2:pK (l.getD p 0)
     ·obtain⟨e1,e2⟩:=Mx h h1 h2;simp only[Bool.or_false,Bool.false_eq_true,if_false];by_cases h3:cB (pc (l.drop p))=0
      ·rw[e1,if_pos h3,drop_at h];rw[drop_at h]at h3;rw[vN h1 h2 h3]
      ·rw[e1,if_neg h3];unfold tZ;rw[e1,e2];rw[drop_at h]at h3 |-;rw[rU h1 h2 h3,<- drop_at h,List.drop_drop];rfl
     ·simp only[Bool.or_true,if_true];rw[drop_at h,yS h1 h2];have e2:jb l p=p+1+((l.drop (p+1)).takeWhile wu).length:=by unfold jb;simp only[h1,h2,Bool.false_eq_true,if_false,if_true]
      rw[e2,<- drop_tw,List.drop_drop]
    ·simp only[Bool.true_or,if_true];rw[drop_at h,rT h1,<- tO (p+1) (l.drop (p+1))];have e2:jb l p=p+1+((l.drop (p+1)).takeWhile kz).length:=by unfold jb;simp only[h1,if_true]
     rw[e2,<- drop_tw,List.drop_drop]
  ·have:p=l.length:=by omega
   subst this;rw[zS h,List.drop_length];rfl
theorem PS (l:List UInt8):fT l 0=lg 0 l:=xm l l.length 0 (by omega) (by omega)
theorem I7 {c d:UInt8}(h:dJ [c,d]=true):d=61\/d=38\/d=124:=by
 simp only[dJ,Bool.or_eq_true,beq_iff_eq,List.cons.injEq,and_true,reduceCtorEq,and_false,or_false,false_or]at h;rcases h with((((⟨_,h⟩ |⟨_,h⟩) |⟨_,h⟩) |⟨_,h⟩) |⟨_,h⟩) |⟨_,h⟩<;>simp[h]
def bulk (ts:List Tok):Nat:=(ts.map λt=>t.s.length).sum
def strip (t:Tok):Nat × Int × List UInt8:=(t.k,t.n,t.s)
theorem mg.some {w:World}{A:Option Addr}{ts:List Tok}(h:mg w A ts)(h0:0<ts.length):∃b off,A=some ⟨b,off,none⟩/\b<w.heap.size:=by
 obtain⟨b,off,e,hb,_⟩:=h h0;exact⟨b,off,e,hb⟩
section
open Go.Shelf
structure RP where
 k:Int
 n:Int
 p:Int
 s:List UInt8
def I8 (w:World)(A:Option Addr)(ts:List RP):Prop:=
 0<ts.length->∃b off,A=some ⟨b,off,none⟩/\b<w.heap.size/\∀j (hj:j<ts.length),w.cell? ⟨b,off+j*4,none⟩=some (.int .i64 ts[j].k)/\w.cell? ⟨b,off+j*4+1,none⟩=some (.int .i64 ts[j].n) /\
  w.cell? ⟨b,off+j*4+2,none⟩=some (.int .i64 ts[j].p)/\w.cell? ⟨b,off+j*4+3,none⟩=some (.string (bs ts[j].s))
theorem I8.below {w w':World}{A:Option Addr}{ts:List RP}(h:I8 w A ts)(hb:Below w.heap.size w w'):I8 w' A ts:=λh0=>by
 obtain⟨b,off,e,hl,hc⟩:=h h0;refine⟨b,off,e,Nat.lt_of_lt_of_le hl hb.size,λj hj =>?_⟩;obtain⟨c0,c1,c2,c3⟩:=hc j hj;exact⟨(hb.cell (p:=⟨b,off+j*4,none⟩) hl).trans c0,(hb.cell (p:=⟨b,off+j*4+1,none⟩) hl).trans c1,(hb.cell (p:=⟨b,off+j*4+2,none⟩) hl).trans c2,(hb.cell (p:=⟨b,off+j*4+3,none⟩) hl).trans c3⟩
end
end Go.Proofs.YteecfjhjllajlaaGreatDoor.Tk
namespace Go.Proofs.YteecfjhjllajlaaGreatDoor.Tk
open Go.Lib (hid)
open Go Go.RowKit
def JN:wX->Option (List (Nat × Int × List UInt8))
 | .bad _=>none
 | .ok ts=>some (ts.map strip)
theorem yT (t:Tok)(r:wX):JN (r.pre [t])=(JN r).map (strip t :: ·):=by cases r<;>rfl
theorem kK:∀(n i j:Nat) (r:List UInt8),r.length<=n->JN (lg i r)=JN (lg j r)
 |n,i,j,[],_=>rfl
 |0,i,j,c :: r,h=>by simp at h
 |n+1,i,j,c :: r,h=>by
  have ht:r.length<=n:=by simpa using h
  have hd:=nI (q:=wu) r;have hp:=qz c r;have hl:((c :: r).drop (pc (c :: r)).length).length<=r.length:=by rw[List.length_drop,List.length_cons];omega
  cases h1:kz c
  ·cases h2:pK c
   ·by_cases h3:cB (pc (c :: r))=0
    ·rw[vN h1 h2 h3,vN h1 h2 h3];rfl
    ·rw[rU h1 h2 h3,rU h1 h2 h3,yT,yT,kK n _ (j+(pc (c :: r)).length) _ (by omega)];rfl
   ·rw[yS h1 h2,yS h1 h2];exact kK n _ _ _ (by omega)
  ·rw[rT h1,rT h1];exact kK n _ _ _ ht
theorem I9 {r:wX}{x:List (Nat × Int × List UInt8)}(h:JN r=some x):∃us,r=.ok us/\us.map strip=x:=by
 cases r with
 |bad p=>cases h
 |ok us=>exact⟨us,rfl,by injection h⟩
end Go.Proofs.YteecfjhjllajlaaGreatDoor.Tk
namespace Go.Proofs.YteecfjhjllajlaaGreatDoor
open Go.Lib (hid)
open Go Go.RowKit
theorem bD.ks {l m:List Tr.Nd}(h:bD l m):l.map Tr.Nd.ks=m.map Tr.Nd.ks:=by
 have:=congrArg (List.map λx:Int × Int × ByteArray × List Int=>x.2.2.2) h;rw[List.map_map,List.map_map]at this;exact this
theorem bD.len {l m:List Tr.Nd}(h:bD l m):l.length=m.length:=by have:=congrArg List.length h;simpa using this
theorem bD.kids {l m:List Tr.Nd}(h:bD l m)(p:Nat):Tr.aJ l p=Tr.aJ m p:=by unfold Tr.aJ;rw[h.ks]
theorem bD.dpL {l m:List Tr.Nd}(h:bD l m):∀n,Tr.dpL l n=Tr.dpL m n
 |0=>rfl
 |n+1=>by simp only[Tr.dpL];rw[h.dpL n,h.kids]
theorem bD.snd {l m:List Tr.Nd}(h:bD l m){r:Int}(q:Tr.gV l r):Tr.gV m r:=by
 obtain⟨b,h1,h2,h3,h4,h5⟩:=q;refine⟨b,by rw[<- h.len];exact h1,by rw[<- h.len];exact h2,by rw[<- h.len];exact h3,?_,by rw[<- h.len];exact h5⟩;rw[<- h.len];intro p hp;rw[<- h.kids];exact h4 p hp
theorem bD.symm {l m:List Tr.Nd}(h:bD l m):bD m l:=Eq.symm h
theorem bD.dpt {l m:List Tr.Nd}(h:bD l m)(r:Int):Tr.dpt l r=Tr.dpt m r:=by
 by_cases q:Tr.gV l r
 ·rw[Tr.jR q,Tr.jR (h.snd q),h.len,h.dpL]
 ·rw[Tr.sG q,Tr.sG (λz=>q (h.symm.snd z))]
inductive Ns:t_->t_->Prop
 |bad (p p' e:Nat):Ns (.bad p e) (.bad p' e)
 |good (nd nd':List Nd) (k:Nat) (h:nd.map JM=nd'.map JM):Ns (.good nd k) (.good nd' k)
end Go.Proofs.YteecfjhjllajlaaGreatDoor
namespace Go.Proofs.YteecfjhjllajlaaGreatDoor
open Go.Lib (hid)
open Go Go.RowKit
def up (c:Nat)(x:Nd):Nd := {x with ks:=x.ks.map (· + (c:Int))}
structure Pl where
 n:Nat
 d:Nat
 l0:List Nd
 o:Nat
 m:Nat
def Pl.sh (P:Pl)(s:St):St:=⟨s.nx+P.d,P.l0++s.nd.map (up P.l0.length),s.op+P.o,max P.m (s.mo+P.o)⟩
def Pl.shV (P:Pl)(v:List Int):List Int:=v.map (· + (P.l0.length:Int))
def eT:Tok:=⟨5,0,0,[]⟩
structure Pl.In (P:Pl) (ts ts':List Tok):Prop where
 same:∀i,i<P.n->ts'.getD (i+P.d) eT=ts.getD i eT
 endK : (ts.getD P.n eT).k = 5
 endS : (ts.getD P.n eT).s = []
 finK:(ts'.getD (P.n+P.d) eT).k≠1/\(ts'.getD (P.n+P.d) eT).k≠2
 finS:(ts'.getD (P.n+P.d) eT).s=[41]
def ET (P:Pl)(s:St)(q:Nat)(r r':Rs):Prop:=∀v s1,r=.ok v s1->s1.op=q/\s.mo<=s1.mo/\s1.nx<=P.n/\(s1.mo+P.o<=40->r' = .ok (P.shV v) (P.sh s1))
section
variable {P:Pl} {s:St} {q:Nat}
theorem ET.no {p e:Nat}{r':Rs}:ET P s q (.no p e) r':=λv s1 h=>by cases h
theorem ET.out {r':Rs}:ET P s q .out r':=λv s1 h=>by cases h
theorem ET.ok (hs:s.nx<=P.n)(v:List Int):ET P s s.op (.ok v s) (.ok (P.shV v) (P.sh s)):=λv s1 h=>by
 injection h with h1 h2
 subst h1 h2;exact⟨rfl,Nat.le_refl _,hs,λ_=>rfl⟩
theorem ET.bind {q2:Nat}{r r':Rs}{k k':List Int->St->Rs}(h:ET P s q r r')(hk:∀v s1,s1.nx<=P.n->s1.op=q->ET P s1 q2 (k v s1) (k' (P.shV v) (P.sh s1))):ET P s q2 (r.bind k) (r'.bind k'):=λv s2 e=>by
 obtain⟨v1,s1,e1,e2⟩:=Rs.bind_ok e;obtain⟨a1,a2,a3,a4⟩:=h v1 s1 e1;obtain⟨b1,b2,b3,b4⟩:=hk v1 s1 a3 a1 v s2 e2;refine⟨b1,Nat.le_trans a2 b2,b3,λhm =>?_⟩;rw[a4 (by omega)];exact b4 hm
theorem ET.from {s0:St}{r r':Rs}(h:ET P s q r r')(hm:s0.mo<=s.mo):ET P s0 q r r':=λv s1 e=>by
 obtain⟨a1,a2,a3,a4⟩:=h v s1 e;exact⟨a1,Nat.le_trans hm a2,a3,a4⟩
variable {ts ts':List Tok} (hP:P.In ts ts')
include hP
end
theorem av (v:List Int)(s:St)(k:List Int->St->Rs):(Rs.ok v s).bind k=k v s:=rfl
namespace Tk
def MB:List (List UInt8):=[[43],[45],[42],[47],[37],[61,61],[33,61],[60],[60,61],[62],[62,61],[38,38],[124,124]]
end Tk
def gT (x:Nat × Int × List UInt8):Tok:=⟨x.1,x.2.1,0,x.2.2⟩
theorem Nt (us:List Tk.Tok):(us.map um).map je=(us.map Tk.strip).map gT:=by rw[List.map_map,List.map_map];rfl
theorem I_ {r:Rs}{v:List Int}{s:St}(h:jD r=.ok v s):∃s',r=.ok v s'/\jB s'=s:=by
 cases r with
 |out=>cases h
 |no p e=>cases h
 |ok v' s'=>injection h with h1 h2;subst h1;exact⟨s',rfl,h2⟩
section
open Tr (Bx aa bt au aP ax aA eH)
def RQ (p er:Int)(w:World)(e:Ending)(w':World):Prop:=e=.returned (.tuple #[.agg #[.slice none 0 0,.int .i64 0],.int .i64 p,.int .i64 er])/\Below w.heap.size w w'
theorem RQ.of {p e:Nat}{a:t_}{w w':World}{v:Ending}(ha:a=.bad p e)(h:jw a w v w'):RQ p e w v w':=by
 subst ha;obtain⟨A,n,c,r,m,p',er',rfl,hb,rfl,rfl,rfl,rfl,rfl,rfl,rfl⟩:=h;exact⟨rfl,hb⟩
def S_ (l:List Tr.Nd)(n:Nat)(w:World)(e:Ending)(w':World):Prop:=∃A c,e=.returned (.tuple #[.agg #[.slice A n c,.int .i64 ((n:Int)-1)],.int .i64 0,.int .i64 0])/\Below w.heap.size w w'/\eH w' A l
theorem S_.of {nd:List Nd}{k n:Nat}{a:t_}{w w':World}{v:Ending}(ha:a=.good nd k)(hn:nd.length=n)(h:jw a w v w'):S_ (nd.map df) n w v w':=by
 subst ha hn;obtain⟨A,n,c,r,m,p',er',rfl,hb,rfl,rfl,rfl,rfl,rfl,hN⟩:=h;exact⟨A,c,rfl,hb,hN.nds⟩
def RS (w:World)(e:Ending)(w':World):Prop:=∃A n c r p er,e=.returned (.tuple #[.agg #[.slice A n c,.int .i64 r],.int .i64 p,.int .i64 er])/\Below w.heap.size w w'
theorem RS.of {a:t_}{w w':World}{v:Ending}(h:jw a w v w'):RS w v w':=by
 obtain⟨A,n,c,r,m,p',er',rfl,hb,_⟩:=h;exact⟨A,n,c,r,p',er',rfl,hb⟩
end
section
open Tr (Bx aa bt au aP ax aA eH)
def SS (a b c d:Nat)(u v x y:List Value)(W:World):Prop:=Bx W a 25 u/\Bx W b 25 v/\Bx W c 25 x/\Bx W d 25 y
theorem SS.below {a b c d:Nat}{u v x y:List Value}{W W':World}(h:SS a b c d u v x y W)(hb:Below W.heap.size W W'):SS a b c d u v x y W':=⟨h.1.below hb h.1.lt,h.2.1.below hb h.2.1.lt,h.2.2.1.below hb h.2.2.1.lt,h.2.2.2.below hb h.2.2.2.lt⟩
end
end Go.Proofs.YteecfjhjllajlaaGreatDoor
