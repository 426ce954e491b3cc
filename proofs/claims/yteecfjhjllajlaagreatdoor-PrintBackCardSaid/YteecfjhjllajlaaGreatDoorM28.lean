/- PROVED: Ua Ub. No more condition. -/
import Derived.Test.YteecfjhjllajlaaGreatDoorM22
namespace Go.Proofs.YteecfjhjllajlaaGreatDoor
open Go.Lib (hid)
def jJ (t:Tok):Tok := {t with p:=0}
def Od (x:Nd):Nd := {x with pl:=0}
def jo (s:St):St := {s with nd:=s.nd.map Od}
def jV:Rs->Rs
 | .out =>.out
 | .no _ e =>.no 0 e
 | .ok v s =>.ok v (jo s)
def RL:nI->nI
 | .stmts _ a =>.stmts 0 a
 |j=>j
theorem az {r r':Rs}{k k':List Int->St->Rs}(h0:r'=jV r)(h:∀v s,k' v (jo s)=jV (k v s)):r'.bind k'=jV (r.bind k):=by
 subst h0;cases r with
 |out=>rfl
 |no p e=>rfl
 |ok v s=>exact h v s
theorem bv {c c':Prop}[Decidable c][Decidable c']{a b a' b':Rs}(hc:c'↔c)(h1:a'=jV a)(h2:b'=jV b):(if c' then a' else b')=jV (if c then a else b):=by
 by_cases q:c
 ·rw[if_pos q,if_pos (hc.2 q)];exact h1
 ·rw[if_neg q,if_neg (λr=>q (hc.1 r))];exact h2
section
variable (ts:List Tok)
theorem uZ (s:St):ah (ts.map jJ) (jo s)=jJ (ah ts s):=by
 unfold ah;rw[List.getD_eq_getElem?_getD,List.getD_eq_getElem?_getD,List.getElem?_map];show((ts[s.nx]?).map jJ).getD _=_;cases ts[s.nx]?<;>rfl
theorem KW (s:St):(ah (ts.map jJ) (jo s)).k=(ah ts s).k:=by rw[uZ];rfl
theorem Rx (s:St):(ah (ts.map jJ) (jo s)).n=(ah ts s).n:=by rw[uZ];rfl
theorem rD (s:St):(ah (ts.map jJ) (jo s)).s=(ah ts s).s:=by rw[uZ];rfl
theorem mi (s:St):(ah (ts.map jJ) (jo s)).p=0:=by rw[uZ];rfl
theorem yh (x:List UInt8)(s:St):sees (ts.map jJ) x (jo s)=sees ts x s:=by unfold sees;rw[rD]
theorem jR (s:St):ae (jo s)=jo (ae s):=rfl
theorem fO (x:List UInt8)(s:St):sees (ts.map jJ) x (jo s)=true↔sees ts x s=true:=by rw[yh]
theorem dA (kd n pl:Int)(tx:List UInt8)(ks:List Int)(s:St):bC kd n 0 tx ks (jo s)=jV (bC kd n pl tx ks s):=by
 unfold bC;show Rs.ok [((s.nd.map Od).length:Int)] _=Rs.ok _ _;rw[List.length_map];show Rs.ok _ _=Rs.ok _ (jo _);unfold jo;simp only[List.map_append,List.map_cons,List.map_nil];rfl
theorem zF (s:St)(e:Nat):Rs.no (ah (ts.map jJ) (jo s)).p e=jV (.no (ah ts s).p e):=by rw[mi];rfl
theorem ng (x:List UInt8)(s:St):gJ (ts.map jJ) x (jo s)=jV (gJ ts x s):=by
 unfold gJ;exact bv (fO ts x s) rfl (zF ts s 2)
theorem ni (s:St):fJ (ts.map jJ) (jo s)=jV (fJ ts s):=by
 unfold fJ;exact bv (by rw[KW]) rfl (zF ts s 2)
theorem Oe (s:St):mM (ts.map jJ) (jo s)=jV (mM ts s):=by
 unfold mM;exact bv (by rw[KW]) rfl (zF ts s 2)
theorem qd (x:List UInt8)(s:St):iw (ts.map jJ) x (jo s)=jV (iw ts x s):=by
 unfold iw;exact bv (by rw[yh];rfl) (zF ts s 6) (az (ng ts x s) λ_ _=>rfl)
theorem u_ (x:List UInt8)(s:St):jv (ts.map jJ) x (jo s)=jV (jv ts x s):=by
 unfold jv;exact az (ng ts x s) λ_ _=>rfl
theorem Cy (s:St):iB (ts.map jJ) (jo s)=jV (iB ts s):=by
 unfold iB;simp only[rD];exact bv Iff.rfl (zF ts s 2) rfl
end
section
variable {ts:List Tok} {rec rec':nI->St->Rs} (hr:∀j s,rec' (RL j) (jo s)=jV (rec j s))
theorem yj (kd:Nat)(s:St):gp (ts.map jJ) kd (jo s)=jV (gp ts kd s):=by
 unfold gp;simp only[rD,mi];exact az (ni ts s) λ_ s=>dA ..
theorem Cz (kd:Nat)(s:St):gD (ts.map jJ) kd (jo s)=jV (gD ts kd s):=by
 unfold gD;simp only[jR,rD,mi];exact az (ni ts _) λ_ s=>dA ..
theorem zG (kd:Nat)(pl:Int)(s:St):d_ (ts.map jJ) kd 0 (jo s)=jV (d_ ts kd pl s):=by
 unfold d_;simp only[rD];exact az (ni ts s) λ_ s=>az (Cy ts s) λn s=>dA ..
theorem zH (s:St):ib (ts.map jJ) (jo s)=jV (ib ts s):=by
 unfold ib;rw[mi];exact zG ..
theorem mq (v:List Int)(s:St):bJ (ts.map jJ) v (jo s)=jV (bJ ts v s):=by
 unfold bJ;exact az (ng ts _ s) λ_ _=>rfl
include hr
theorem iK (s:St):a_ rec' (jo s)=jV (a_ rec s):=hr (.bin 1) s
theorem G9 (s:St):lv (ts.map jJ) rec' (jo s)=jV (lv ts rec s):=by
 unfold lv;exact az (qd ts _ s) λ_ s=>az (iK hr s) λv s=>az (u_ ts _ s) λ_ s=>rfl
theorem KY (s:St):iy (ts.map jJ) rec' (jo s)=jV (iy ts rec s):=by
 unfold iy;simp only[rD,mi];exact az (ni ts s) λ_ s=>bv (fO ..) (az (G9 hr s) λv s=>dA ..) (dA ..)
theorem KZ (s:St):iA (ts.map jJ) rec' (jo s)=jV (iA ts rec s):=by
 unfold iA;simp only[rD,mi];exact az (qd ts _ s) λ_ s=>az (hr .una s) λv s=>dA (s := {s with op:=s.op-1}) ..
theorem Og (s:St):bf (ts.map jJ) rec' (jo s)=jV (bf ts rec s):=by
 unfold bf;simp only[KW,Rx,rD,mi,jR];refine bv Iff.rfl (KY hr s) ?_;refine bv Iff.rfl (dA ..) ?_;refine bv Iff.rfl (KZ hr s) ?_;refine bv Iff.rfl (dA ..) ?_;refine bv Iff.rfl (Cz 24 s) ?_;refine bv Iff.rfl (Cz 25 s) ?_;refine bv Iff.rfl (az (qd ts _ s) λ_ s=>az (iK hr s) λv s=>az (u_ ts _ s) λ_ s=>rfl) rfl
theorem K6 (r:Nat)(s:St):iY rec' r (jo s)=jV (iY rec r s):=by
 unfold iY;exact bv Iff.rfl (hr .una s) (az (hr (.bin (r+1)) s) λv s=>hr (.loop r v) s)
theorem K7 (r:Nat)(l:List Int)(s:St):jl (ts.map jJ) rec' r l (jo s)=jV (jl ts rec r l s):=by
 unfold jl;simp only[rD,mi,jR];exact bv Iff.rfl (az (hr (.bin (r+1)) _) λv s=>az (dA ..) λv s=>hr (.loop r v) s) rfl
theorem G_ (a:List Int)(s:St):eQ (ts.map jJ) rec' a (jo s)=jV (eQ ts rec a s):=by
 unfold eQ;exact bv (fO ..) (az (iK hr (ae s)) λv s=>hr (.exprs (a++v)) s) (az (u_ ts _ s) λ_ s=>rfl)
theorem K8 (s:St):jb (ts.map jJ) rec' (jo s)=jV (jb ts rec s):=by
 unfold jb;exact az (qd ts _ s) λ_ s=>bv (fO ..) (hr (.exprs []) s) (az (iK hr s) λv s=>hr (.exprs v) s)
theorem CB (tx:List UInt8)(pl:Int)(s:St):gq (ts.map jJ) rec' tx 0 (jo s)=jV (gq ts rec tx pl s):=by
 unfold gq;exact az (ng ts _ s) λ_ s=>az (yj 19 s) λv s=>az (K8 hr s) λu s=>dA ..
theorem om (s:St):dm (ts.map jJ) rec' (jo s)=jV (dm ts rec s):=by
 unfold dm;simp only[mi];exact az (qd ts _ s) λ_ s'=>hr (.stmts (ah ts s).p []) s'
theorem Ha (pl:Int)(a:List Int)(s:St):fV (ts.map jJ) rec' 0 a (jo s)=jV (fV ts rec pl a s):=by
 unfold fV;exact bv (fO ..) (az (u_ ts _ s) λ_ s=>dA ..) (az (hr .stmt s) λv s=>hr (.stmts pl (a++v)) s)
theorem K9 (t:Tok)(s:St):bI (ts.map jJ) rec' (jJ t) (jo s)=jV (bI ts rec t s):=by
 unfold bI;simp only[rD,jR,jJ];refine bv Iff.rfl (az (yj 18 _) λv s=>dA ..) ?_;refine bv Iff.rfl (CB hr t.s t.p s) ?_;exact bv Iff.rfl (az (iK hr _) λv s=>dA ..) (az (iK hr s) λv s=>dA ..)
theorem Hd (s:St):d9 (ts.map jJ) rec' (jo s)=jV (d9 ts rec s):=by
 unfold d9;simp only[rD,mi];refine az (ni ts s) λ_ s1 =>?_
 refine bv (fO ..) (az (G9 hr s1) λi s=>az (ng ts _ s) λ_ s=>az (iK hr s) λv s=>az (dA ..) λv s=>mq v s) ?_;refine az (ng ts _ s1) λ_ s2 =>?_
 rw[uZ];exact az (K9 hr _ s2) λv s=>mq v s
theorem Oh (s:St):lT (ts.map jJ) rec' (jo s)=jV (lT ts rec s):=by
 unfold lT;simp only[mi,jR];exact az (yj 18 _) λc s=>az (iK hr s) λv s=>az (dA ..) λv s=>mq v s
theorem QF (s:St):vX (ts.map jJ) rec' (jo s)=jV (vX ts rec s):=by
 unfold vX;simp only[mi,jR];exact az (iK hr _) λc s=>az (om hr s) λa s=>bv (fO ..) (az (om hr (ae s)) λb s=>dA ..) (az (dA ..) λb s=>dA ..)
theorem He (s:St):h_ (ts.map jJ) rec' (jo s)=jV (h_ ts rec s):=by
 unfold h_;simp only[mi,jR];exact az (iK hr _) λc s=>az (om hr s) λa s=>dA ..
theorem D8 (s:St):cO (ts.map jJ) rec' (jo s)=jV (cO ts rec s):=by
 unfold cO;simp only[mi,jR,yh];exact bv Iff.rfl (dA ..) (az (iK hr _) λv s=>dA ..)
theorem Hf (s:St):iM (ts.map jJ) rec' (jo s)=jV (iM ts rec s):=by
 unfold iM;simp only[mi,jR];exact az (iK hr _) λv s=>dA ..
theorem Oi (s:St):lU (ts.map jJ) rec' (jo s)=jV (lU ts rec s):=by
 unfold lU;simp only[mi,jR];refine az (om hr _) λa s=>az (ng ts _ s) λ_ s =>?_
 simp only[rD];exact az (ni ts s) λ_ s=>az (om hr s) λb s=>dA ..
theorem K_ (s:St):aO (ts.map jJ) rec' (jo s)=jV (aO ts rec s):=by
 unfold aO;simp only[KW,rD,mi];refine bv Iff.rfl (Hd hr s) ?_;refine bv Iff.rfl (Oh hr s) ?_;refine bv Iff.rfl (QF hr s) ?_;refine bv Iff.rfl (He hr s) ?_;refine bv Iff.rfl (az (CB hr [] _ s) λv s=>mq v s) ?_;refine bv Iff.rfl (az (D8 hr s) λv s=>mq v s) ?_;refine bv Iff.rfl (az (Hf hr s) λv s=>mq v s) ?_;exact bv Iff.rfl (Oi hr s) rfl
theorem La (kd:Nat)(a:List Int)(s:St):jm (ts.map jJ) rec' kd a (jo s)=jV (jm ts rec kd a s):=by
 unfold jm;rw[mi];exact bv (fO ..) (az (zG kd _ (ae s)) λv s=>az (ng ts _ s) λ_ s=>hr (.vars kd (a++v)) s) rfl
theorem D9 (a:List Int)(s:St):dD (ts.map jJ) rec' a (jo s)=jV (dD ts rec a s):=by
 unfold dD;exact bv (fO ..) (az (zH (ae s)) λv s=>hr (.params (a++v)) s) (az (u_ ts _ s) λ_ s=>rfl)
theorem Hg (s:St):fZ (ts.map jJ) rec' (jo s)=jV (fZ ts rec s):=by
 unfold fZ;exact az (qd ts _ s) λ_ s=>bv (fO ..) (hr (.params []) s) (az (zH s) λv s=>hr (.params v) s)
theorem Lb (s:St):jc (ts.map jJ) rec' (jo s)=jV (jc ts rec s):=by
 unfold jc;simp only[mi];refine az (ng ts _ s) λ_ s1 =>?_
 simp only[rD];refine az (ni ts s1) λ_ s2=>az (Hg hr s2) λps s3 =>?_
 refine az (bv (fO ..) rfl (Cy ts s3)) λn s4 =>?_
 simp only[mi];exact az (qd ts _ s4) λ_ s5=>az (hr (.vars 5 []) s5) λvs s6=>az (hr (.stmts (ah ts s4).p []) s6) λbl s7=>dA ..
theorem Hl (a:List Int)(s:St):f_ (ts.map jJ) rec' a (jo s)=jV (f_ ts rec a s):=by
 unfold f_;exact bv (fO ..) (az (Lb hr s) λv s=>hr (.procs (a++v)) s) rfl
theorem Bb (s:St):bT (ts.map jJ) rec' (jo s)=jV (bT ts rec s):=by
 unfold bT;exact az (hr (.vars 2 []) s) λvs s=>az (hr (.procs vs) s) λps s=>az (Oe ts s) λ_ s=>dA ..
end
theorem Hm (ts:List Tok):∀(f:Nat) (j:nI) (s:St),run (ts.map jJ) f (RL j) (jo s)=jV (run ts f j s)
 |0,_,_=>rfl
 |f+1,j,s=>by
  have ih:=Hm ts f;cases j with
  |una=>exact Og ih s
  |bin r=>exact K6 ih r s
  |loop r l=>exact K7 ih r l s
  |exprs a=>exact G_ ih a s
  |stmt=>exact K_ ih s
  |stmts p a=>exact Ha ih p a s
  |vars k a=>exact La ih k a s
  |params a=>exact D9 ih a s
  |procs a=>exact Hl ih a s
theorem CE (ts:List Tok):jd (ts.map jJ)=jV (jd ts):=by
 unfold jd steps;rw[List.length_map];exact Bb (Hm ts _) st0
theorem Lc {ts us:List Tok}(h:ts.map jJ=us.map jJ):jV (jd ts)=jV (jd us):=by rw[<- CE,<- CE,h]
section
set_option maxHeartbeats 1500000
set_option maxRecDepth 100000
open Go Go.RowKit
open Tr (Bx aa bt au aP ax aA eF Ints)
theorem D_ (K M:Option Addr)(n c d:Nat)(ks:List Int)(w:World)(hK:Ints w K ks)(hM:Ints w M ks)(hn:n=ks.length)(hl:n<=100000):Calls Tryz.prog 137 #[.slice K n c,.slice M n d] w (Tr.dP true w):=by
 have HK:=hid hK;have HM:=hid hM;have HN:=hid hn;clear hK hM hn;go_enter Tryz.func137,Tryz.ntmps137
 go_wp2
 go_loopg [13] n (λg a13 wr=>∃i:Nat,a13=.int .i64 (i:Int)/\i<=n/\g=n-i/\Below w.heap.size w wr)
 case atStart=>exact⟨0,rfl,Nat.zero_le _,rfl,Below.refl _ _⟩
 case round=>
  obtain⟨i,rfl,hi,rfl,hb⟩:=hrel;have HB:=hid hb;by_cases hlt:i<n
  ·have hlz:(i:Int)<(n:Int):=by omega
   have hik:i<ks.length:=by rw[<- HN.out];exact hlt
   obtain⟨bK,oK,rfl,lK,cK⟩:=HK.out (by omega);obtain⟨bM,oM,rfl,lM,cM⟩:=HM.out (by omega);obtain⟨x,hx⟩:∃x,x=ks[i]:=⟨_,rfl⟩;have c1:wr.cell? ⟨bK,oK+i,none⟩=some (.int .i64 x):=(HB.out.cell (p:=⟨bK,oK+i,none⟩) lK).trans (by rw[hx];exact cK i hik);have c2:wr.cell? ⟨bM,oM+i,none⟩=some (.int .i64 x):=(HB.out.cell (p:=⟨bM,oM+i,none⟩) lM).trans (by rw[hx];exact cM i hik);clear cK cM lK lM hx hb;go_wp2_with fail
   go_quiet (fail)
   go_wp2
   go_roundg (n-(i+1))
   case measure=>go_light;omega
   case rel=>
    go_light
    exact⟨i+1,by go_num,by omega,rfl,Tk.below_drewN HB.out _⟩
  ·have hlz:¬(i:Int)<(n:Int):=by omega
   clear hi hlt hb;go_wp2
   go_ret
   exact⟨rfl,HB.out⟩
theorem Ea (K M:Option Addr)(m c d:Nat)(ks:List Int)(kd n pl pl':Int)(tx:ByteArray)(w:World)(hK:Ints w K ks)(hM:Ints w M ks)(hm:m=ks.length)(hl:m<=100000):Calls Tryz.prog 76 #[.agg #[.int .i64 kd,.int .i64 n,.int .i64 pl,.string tx,.slice K m c],.agg #[.int .i64 kd,.int .i64 n,.int .i64 pl',.string tx,.slice M m d]] w (Tr.dP true w):=by
 have HI:=hid (λw' (q:Below w.heap.size w w')=>D_ K M m c d ks w' (hK.below q) (hM.below q) hm hl);clear hK hM hm hl;go_enter Tryz.func76,Tryz.ntmps76
 go_wp2_with (go_at_call 137;refine(HI.out _ (bt (aa _ _) (aa _ _))).mono ?_;rintro e w1 ⟨rfl,hb1⟩)
 go_ret
 exact⟨rfl,bt (bt (aa _ _) (aa _ _)) hb1⟩
def bR (l m:List Tr.Nd):Prop:=l.map (λx=>(x.kd,x.n,x.tx,x.ks))=m.map (λx=>(x.kd,x.n,x.tx,x.ks))
theorem bR.at_ {l m:List Tr.Nd}(h:bR l m)(i:Nat)(hi:i<l.length):∃hj:i<m.length,l[i].kd=m[i].kd/\l[i].n=m[i].n/\l[i].tx=m[i].tx/\l[i].ks=m[i].ks:=by
 have hl:l.length=m.length:=by have:=congrArg List.length h;simpa using this
 refine⟨hl▸hi,?_⟩;have e:=congrArg (λz=>z[i]?) h;simp only[List.getElem?_map,List.getElem?_eq_getElem hi,List.getElem?_eq_getElem (hl▸hi),Option.map_some,Option.some.injEq,Prod.mk.injEq]at e;exact e
theorem Ho (A B:Option Addr)(n c d:Nat)(l m:List Tr.Nd)(w:World)(hA:eF w A l)(hB:eF w B m)(hL:bR l m)(hn:n=l.length)(hl:n<=4000)(hk:∀x ∈ l,x.ks.length<=4000):Calls Tryz.prog 75 #[.slice A n c,.slice B n d,.func (.func 76) #[] #[]] w (Tr.dP true w):=by
 have HA:=hid hA;have HB:=hid hB;have HL:=hid hL;have HN:=hid hn;have HK:=hid hk;clear hA hB hL hn hk;go_enter Tryz.func75,Tryz.ntmps75
 go_wp2
 go_loopg [17] n (λg a17 wr=>∃i:Nat,a17=.int .i64 (i:Int)/\i<=n/\g=n-i/\Below w.heap.size w wr)
 case atStart=>exact⟨0,rfl,Nat.zero_le _,rfl,Below.refl _ _⟩
 case round=>
  obtain⟨i,rfl,hi,rfl,hb⟩:=hrel;have HW:=hid hb;by_cases hlt:i<n
  ·have hlz:(i:Int)<(n:Int):=by omega
   have hil:i<l.length:=by rw[<- HN.out];exact hlt
   obtain⟨him,e1,e2,e3,e4⟩:=HL.out.at_ i hil;obtain⟨b1,o1,rfl,l1,q1⟩:=HA.out (by omega);obtain⟨b2,o2,rfl,l2,q2⟩:=HB.out (by omega);obtain⟨K,cK,k0,k1,k2,k3,k4,hK⟩:=q1 i hil;obtain⟨M,cM,m0,m1,m2,m3,m4,hM⟩:=q2 i him;rw[<- e1]at m0;rw[<- e2]at m1;rw[<- e3]at m3;rw[<- e4]at m4 hM;have hkl:=HK.out _ (List.getElem_mem hil);have ck0:=(hb.cell (p:=⟨b1,o1+i*5,none⟩) l1).trans k0;have ck1:=(hb.cell (p:=⟨b1,o1+i*5+1,none⟩) l1).trans k1;have ck2:=(hb.cell (p:=⟨b1,o1+i*5+2,none⟩) l1).trans k2;have ck3:=(hb.cell (p:=⟨b1,o1+i*5+3,none⟩) l1).trans k3;have ck4:=(hb.cell (p:=⟨b1,o1+i*5+4,none⟩) l1).trans k4;have cm0:=(hb.cell (p:=⟨b2,o2+i*5,none⟩) l2).trans m0;have cm1:=(hb.cell (p:=⟨b2,o2+i*5+1,none⟩) l2).trans m1;have cm2:=(hb.cell (p:=⟨b2,o2+i*5+2,none⟩) l2).trans m2;have cm3:=(hb.cell (p:=⟨b2,o2+i*5+3,none⟩) l2).trans m3;have cm4:=(hb.cell (p:=⟨b2,o2+i*5+4,none⟩) l2).trans m4;have lt1:b1<wr.heap.size:=Nat.lt_of_lt_of_le l1 hb.size;have lt2:b2<wr.heap.size:=Nat.lt_of_lt_of_le l2 hb.size;have HC:=hid (λw' (q:Below w.heap.size w w')=>Ea K M l[i].ks.length cK cM l[i].ks l[i].kd l[i].n l[i].pl m[i].pl l[i].tx w' (hK.below q) (hM.below q) rfl (by omega));generalize l[i].kd=kd at *
   generalize l[i].n=nn at *
   generalize l[i].pl=pl at *
   generalize m[i].pl=pl2 at *
   generalize l[i].tx=tx at *
   generalize l[i].ks.length=kl at *
   clear e1 e2 e3 e4 q1 q2 k0 k1 k2 k3 k4 m0 m1 m2 m3 m4 hK hM hb l1 l2;clear hkl hil him hi;go_wp2_with (go_at_call 76;refine(HC.out _ (bt HW.out (bt (aa _ _) (aa _ _)))).mono ?_;rintro e w1 ⟨rfl,hb1⟩)
   go_roundg (n-(i+1))
   case measure=>go_light;omega
   case rel=>
    go_light
    exact⟨i+1,by go_num,by omega,rfl,bt (bt HW.out (bt (aa _ _) (aa _ _))) hb1⟩
  ·have hlz:¬(i:Int)<(n:Int):=by omega
   clear hi hlt hb;go_wp2
   go_ret
   exact⟨rfl,HW.out⟩
theorem Hq (A B:Option Addr)(n c d:Nat)(r:Int)(l m:List Tr.Nd)(w:World)(hA:eF w A l)(hB:eF w B m)(hL:bR l m)(hn:n=l.length)(hl:n<=4000)(hk:∀x ∈ l,x.ks.length<=4000):Calls Tryz.prog 28 #[.agg #[.slice A n c,.int .i64 r],.agg #[.slice B n d,.int .i64 r]] w (Tr.dP true w):=by
 have HE:=hid (λw' (q:Below w.heap.size w w')=>Ho A B n c d l m w' (hA.below q) (hB.below q) hL hn hl hk);clear hA hB hL hn hl hk;go_enter Tryz.func28,Tryz.ntmps28
 go_wp2_with (go_at_call 75;refine(HE.out _ (bt (aa _ _) (aa _ _))).mono ?_;rintro e w1 ⟨rfl,hb1⟩)
 go_ret
 exact⟨rfl,bt (bt (aa _ _) (aa _ _)) hb1⟩
end
end Go.Proofs.YteecfjhjllajlaaGreatDoor
