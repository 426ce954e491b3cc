/- PROVED: Pn Po Pp. No more condition. -/
import Derived.Test.YteecfjhjllajlaaGreatDoorG06
namespace Go.Proofs.YteecfjhjllajlaaGreatDoor
open Go.Lib (hid)
open Go Go.RowKit
def Nk (s:St)(k:Int)(r:Rs):Prop:=∀v s',r=.ok v s'->((s'.nd.length:Int)+s.nx+k<=s.nd.length+s'.nx/\s.nx<=s'.nx)/\(s.op<=40->s.mo<=40->s'.op<=40/\s'.mo<=40)
theorem Nk.bind {s:St}{k k2:Int}{r:Rs}{f:List Int->St->Rs}(h:Nk s k r)(q:∀v s',Nk s' k2 (f v s'))(k3:Int)(hk:k3<=k+k2):Nk s k3 (r.bind f):=λv s' e=>by
 obtain⟨v1,s1,e1,e2⟩:=Rs.bind_ok e;have a:=h v1 s1 e1;have b:=q v1 s1 v s' e2;exact⟨⟨by have:=a.1;have:=b.1;omega,by have:=a.1;have:=b.1;omega⟩,λh1 h2=>b.2 (a.2 h1 h2).1 (a.2 h1 h2).2⟩
theorem Nk.weak {s:St}{k k':Int}{r:Rs}(h:Nk s k r)(hk:k'<=k):Nk s k' r:=λv s' e=>⟨⟨by have:=(h v s' e).1;omega,(h v s' e).1.2⟩,(h v s' e).2⟩
theorem fu (s:St)(v:List Int):Nk s 0 (.ok v s):=λv s' e=>by injection e with _ e;subst e;exact⟨⟨by omega,Nat.le_refl _⟩,λh1 h2=>⟨h1,h2⟩⟩
theorem qW (s:St)(k:Int)(p e:Nat):Nk s k (.no p e):=λv s' e=>by cases e
theorem bF (s:St)(kd n pl:Int)(tx:List UInt8)(ks:List Int):Nk s (-1) (bX kd n pl tx ks s):=λv s' e=>by
 unfold bX at e;injection e with _ e;subst e
 exact⟨⟨by simp;omega,Nat.le_refl _⟩,λh1 h2=>⟨h1,h2⟩⟩
theorem bZ {s:St}{k:Int}{r:Rs}(h:Nk (ax s) k r):Nk s (k+1) r:=λv s' e=>by
 have a:=h v s' e;have e1:(ax s).nd=s.nd:=rfl;have e2:(ax s).nx=s.nx+1:=rfl;rw[e1,e2]at a;exact⟨⟨by have:=a.1;omega,by have:=a.1;omega⟩,a.2⟩
section
variable (ts:List Tok) (s:St)
theorem iG (x:List UInt8):Nk s 1 (iZ ts x s):=by
 unfold iZ;split
 ·exact(bZ (fu _ _)).weak (by omega)
 ·exact qW _ _ _ _
theorem jD:Nk s 1 (gP ts s):=by
 unfold gP;split
 ·exact(bZ (fu _ _)).weak (by omega)
 ·exact qW _ _ _ _
theorem IJ:Nk s 0 (qm ts s):=by
 unfold qm;split
 ·exact fu _ _
 ·exact qW _ _ _ _
theorem ng (x:List UInt8):Nk s 1 (ja ts x s):=by
 unfold ja;split
 ·exact qW _ _ _ _
 ·rename_i q;intro v s' e;obtain⟨v1,s1,e1,e2⟩:=Rs.bind_ok e;have a:=iG ts s x v1 s1 e1;injection e2 with _ e2;subst e2
  have hs:sees ts x s=true/\s1.op=s.op:=by
   unfold iZ at e1;split at e1
   ·rename_i q1;injection e1 with _ e1;subst e1;exact⟨q1,rfl⟩
   ·cases e1
  refine⟨⟨a.1.1,a.1.2⟩,λh1 h2 =>?_⟩;have b:=a.2 h1 h2;have:s.op≠40:=λh=>q ⟨hs.1,h⟩
  have:=hs.2;show s1.op+1<=40/\max s1.mo (s1.op+1)<=40;omega
theorem jL (x:List UInt8):Nk s 1 (ll ts x s):=by
 unfold ll;intro v s' e;obtain⟨v1,s1,e1,e2⟩:=Rs.bind_ok e;have a:=iG ts s x v1 s1 e1;injection e2 with _ e2;subst e2
 refine⟨⟨a.1.1,a.1.2⟩,λh1 h2 =>?_⟩;have b:=a.2 h1 h2;show s1.op-1<=40/\s1.mo<=40;omega
theorem zq:Nk s 1 (kT ts s):=by
 unfold kT;simp only;split
 ·exact qW _ _ _ _
 ·exact(bZ (fu _ _)).weak (by omega)
theorem nW (kd:Nat):Nk s 0 (iJ ts kd s):=by
 unfold iJ;simp only;exact(jD ts s).bind (λ_ s=>bF _ _ _ _ _ _) 0 (by omega)
theorem nX (kd:Nat)(pl:Int):Nk s 1 (iF ts kd pl s):=by
 unfold iF;simp only;exact(jD ts s).bind (λ_ s=>(zq ts s).bind (λ_ s=>bF _ _ _ _ _ _) 0 (by omega)) 1 (by omega)
theorem uQ (kd:Nat):Nk s 1 (jC ts kd s):=by
 unfold jC;simp only;exact bZ ((jD ts _).bind (λ_ s=>bF _ _ _ _ _ _) 0 (by omega))
theorem jW (v:List Int):Nk s 1 (dL ts v s):=by
 unfold dL;exact(iG ts s _).bind (λ_ s=>fu _ _) 1 (by omega)
theorem wu:Nk s 1 (kE ts s):=by unfold kE;exact nX ts s _ _
end
def CJ (rec:oW->St->Rs):Prop:=∀s,Nk s 0 (rec .una s)/\(∀r,Nk s 0 (rec (.bin r) s))/\(∀r l,Nk s 0 (rec (.loop r l) s))/\(∀a,Nk s 1 (rec (.exprs a) s))/\Nk s 0 (rec .stmt s)/\(∀p a,Nk s 0 (rec (.stmts p a) s))/\(∀k a,Nk s 0 (rec (.vars k a) s))/\(∀a,Nk s 1 (rec (.params a) s))/\∀a,Nk s 0 (rec (.procs a) s)
section
variable (ts:List Tok) {rec:oW->St->Rs} (hr:CJ rec) (s:St)
include hr
theorem dN:Nk s 0 (bT rec s):=(hr s).2.1 1
theorem yu:Nk s 2 (nQ ts rec s):=by
 unfold nQ;exact(ng ts s _).bind (λ_ s=>(dN hr s).bind (λ_ s=>(jL ts s _).bind (λ_ s=>fu _ _) 1 (by omega)) 1 (by omega)) 2 (by omega)
theorem CK:Nk s 2 ((ja ts [40] s).bind λ_ s=>(bT rec s).bind λv s=>(ll ts [41] s).bind λ_ s =>.ok v s):=
 (ng ts s _).bind (λ_ s=>(dN hr s).bind (λ_ s=>(jL ts s _).bind (λ_ s=>fu _ _) 1 (by omega)) 1 (by omega)) 2 (by omega)
theorem zu:Nk s 0 (jS ts rec s):=by
 unfold jS;simp only;refine(jD ts s).bind (λ_ s =>?_) 0 (k2 := -1) (by omega);split
 ·exact(yu ts hr s).bind (λ_ s=>bF _ _ _ _ _ _) _ (by omega)
 ·exact bF _ _ _ _ _ _
theorem zw:Nk s 0 (jB ts rec s):=by
 unfold jB;simp only;refine(ng ts s _).bind (λ_ s=>(hr s).1.bind (λ_ s =>?_) (-1) (k2 := -1) (by omega)) 0 (by omega);intro v s' e;have a:=bF _ _ _ _ _ _ v s' e;exact⟨a.1,λh1 h2=>a.2 (by show s.op-1<=40;omega) h2⟩
theorem jf:Nk s 0 (bq ts rec s):=by
 unfold bq;simp only;split
 ·exact zu ts hr s
 split
 ·exact(bZ (bF _ _ _ _ _ _)).weak (by omega)
 split
 ·exact zw ts hr s
 split
 ·exact(bZ (bF _ _ _ _ _ _)).weak (by omega)
 split
 ·exact(uQ ts s _).weak (by omega)
 split
 ·exact(uQ ts s _).weak (by omega)
 split
 ·exact(CK ts hr s).weak (by omega)
 ·exact qW _ _ _ _
theorem IK (r:Nat):Nk s 0 (lq rec r s):=by
 unfold lq;split
 ·exact(hr s).1
 ·exact((hr s).2.1 _).bind (λ_ s=>(hr s).2.2.1 _ _) 0 (by omega)
theorem Fy (r:Nat)(l:List Int):Nk s 0 (nR ts rec r l s):=by
 unfold nR;simp only;split
 ·exact(bZ (((hr _).2.1 _).bind (λ_ s=>(bF _ _ _ _ _ _).bind (λ_ s=>(hr s).2.2.1 _ _) (-1) (by omega)) (-1) (by omega))).weak (by omega)
 ·exact fu _ _
theorem CL (a:List Int):Nk s 1 (jc ts rec a s):=by
 unfold jc;split
 ·exact(bZ ((dN hr _).bind (λ_ s=>(hr s).2.2.2.1 _) 1 (by omega))).weak (by omega)
 ·exact(jL ts s _).bind (λ_ s=>fu _ _) 1 (by omega)
theorem Fz:Nk s 2 (lu ts rec s):=by
 unfold lu;refine(ng ts s _).bind (λ_ s =>?_) 2 (k2:=1) (by omega);split
 ·exact(hr s).2.2.2.1 _
 ·exact(dN hr s).bind (λ_ s=>(hr s).2.2.2.1 _) 1 (by omega)
theorem uR (tx:List UInt8)(pl:Int):Nk s 1 (jd ts rec tx pl s):=by
 unfold jd;exact(iG ts s _).bind (λ_ s=>(nW ts s _).bind (λ_ s=>(Fz ts hr s).bind (λ_ s=>bF _ _ _ _ _ _) 1 (by omega)) 1 (by omega)) 1 (by omega)
theorem jX:Nk s 1 (fU ts rec s):=by
 unfold fU;simp only;exact(ng ts s _).bind (λ_ s=>(hr s).2.2.2.2.2.1 _ _) 1 (by omega)
theorem CO (pl:Int)(a:List Int):Nk s 0 (kC ts rec pl a s):=by
 unfold kC;split
 ·exact(jL ts s _).bind (λ_ s=>bF _ _ _ _ _ _) 0 (by omega)
 ·exact(hr s).2.2.2.2.1.bind (λ_ s=>(hr s).2.2.2.2.2.1 _ _) 0 (by omega)
theorem nY (t:Tok):Nk s (-1) (dB ts rec t s):=by
 unfold dB;simp only;split
 ·exact(bZ ((nW ts _ _).bind (λ_ s=>bF _ _ _ _ _ _) (-1) (by omega))).weak (by omega)
 split
 ·exact(uR ts hr s _ _).weak (by omega)
 split
 ·exact(bZ ((dN hr _).bind (λ_ s=>bF _ _ _ _ _ _) (-1) (by omega))).weak (by omega)
 ·exact(dN hr _).bind (λ_ s=>bF _ _ _ _ _ _) (-1) (by omega)
theorem ww:Nk s 0 (gV ts rec s):=by
 unfold gV;simp only;refine(jD ts s).bind (λ_ s =>?_) 0 (k2:=0) (by omega);split
 ·exact(yu ts hr s).bind (λ_ s=>(iG ts s _).bind (λ_ s=>(dN hr s).bind (λ_ s=>(bF _ _ _ _ _ _).bind (λ_ s=>jW ts s _) 0 (by omega)) 0 (by omega)) 0 (by omega)) 0 (by omega)
 ·exact(iG ts s _).bind (λ_ s=>(nY ts hr s _).bind (λ_ s=>jW ts s _) 0 (by omega)) 0 (by omega)
theorem zx:Nk s 0 (o9 ts rec s):=by
 unfold o9;simp only;exact(bZ ((nW ts _ _).bind (λ_ s=>(dN hr s).bind (λ_ s=>(bF _ _ _ _ _ _).bind (λ_ s=>jW ts s _) 0 (by omega)) 0 (by omega)) 0 (by omega))).weak (by omega)
theorem Hl:Nk s 0 (Au ts rec s):=by
 unfold Au;simp only;refine(bZ (k := -1) ((dN hr _).bind (λ_ s=>(jX ts hr s).bind (λ_ s =>?_) (-1) (k2 := -2) (by omega)) (-1) (by omega))).weak (by omega);split
 ·exact(bZ (k:=0) ((jX ts hr _).bind (λ_ s=>bF _ _ _ _ _ _) 0 (by omega))).weak (by omega)
 ·exact(bF _ _ _ _ _ _).bind (λ_ s=>bF _ _ _ _ _ _) _ (by omega)
theorem CP:Nk s 0 (kD ts rec s):=by
 unfold kD;simp only;exact(bZ ((dN hr _).bind (λ_ s=>(jX ts hr s).bind (λ_ s=>bF _ _ _ _ _ _) 0 (by omega)) 0 (by omega))).weak (by omega)
theorem tN:Nk s 0 (fe ts rec s):=by
 unfold fe;simp only;refine(bZ (k := -1) ?_).weak (by omega);split
 ·exact bF _ _ _ _ _ _
 ·exact(dN hr _).bind (λ_ s=>bF _ _ _ _ _ _) _ (by omega)
theorem CQ:Nk s 0 (lw ts rec s):=by
 unfold lw;simp only;exact(bZ (k := -1) ((dN hr _).bind (λ_ s=>bF _ _ _ _ _ _) _ (by omega))).weak (by omega)
theorem CR:Nk s 0 (o_ ts rec s):=by
 unfold o_;simp only;exact(bZ ((jX ts hr _).bind (λ_ s=>(iG ts s _).bind (λ_ s=>(jD ts s).bind (λ_ s=>(jX ts hr s).bind (λ_ s=>bF _ _ _ _ _ _) 0 (by omega)) 0 (by omega)) 0 (by omega)) 0 (by omega))).weak (by omega)
theorem ik:Nk s 0 (aK ts rec s):=by
 unfold aK;simp only;split
 ·exact ww ts hr s
 split
 ·exact zx ts hr s
 split
 ·exact Hl ts hr s
 split
 ·exact CP ts hr s
 split
 ·exact(uR ts hr s _ _).bind (λ_ s=>jW ts s _) 0 (by omega)
 split
 ·exact(tN ts hr s).bind (λ_ s=>jW ts s _) 0 (by omega)
 split
 ·exact(CQ ts hr s).bind (λ_ s=>jW ts s _) 0 (by omega)
 split
 ·exact CR ts hr s
 ·exact qW _ _ _ _
theorem FB (k:Nat)(a:List Int):Nk s 0 (nS ts rec k a s):=by
 unfold nS;split
 ·exact(bZ ((nX ts _ _ _).bind (λ_ s=>(iG ts s _).bind (λ_ s=>(hr s).2.2.2.2.2.2.1 _ _) 0 (by omega)) 0 (by omega))).weak (by omega)
 ·exact fu _ _
theorem AC (a:List Int):Nk s 1 (gG ts rec a s):=by
 unfold gG;split
 ·exact(bZ ((wu ts _).bind (λ_ s=>(hr s).2.2.2.2.2.2.2.1 _) 1 (by omega))).weak (by omega)
 ·exact(jL ts s _).bind (λ_ s=>fu _ _) 1 (by omega)
theorem CS:Nk s 2 (je ts rec s):=by
 unfold je;refine(ng ts s _).bind (λ_ s =>?_) 2 (k2:=1) (by omega);split
 ·exact(hr s).2.2.2.2.2.2.2.1 _
 ·exact(wu ts s).bind (λ_ s=>(hr s).2.2.2.2.2.2.2.1 _) 1 (by omega)
theorem zy:Nk s 0 (kU ts rec s):=by
 unfold kU;simp only;refine(iG ts s _).bind (λ_ s=>(jD ts s).bind (λ_ s=>(CS ts hr s).bind (λ_ s =>?_) 0 (k2 := -1) (by omega)) 0 (by omega)) 0 (by omega);refine Nk.bind (k:=0) ?_ (λ_ s=>(ng ts s _).bind (λ_ s=>((hr s).2.2.2.2.2.2.1 _ _).bind (λ_ s=>((hr s).2.2.2.2.2.1 _ _).bind (λ_ s=>bF _ _ _ _ _ _) (-1) (by omega)) (-1) (by omega)) (-1) (by omega)) _ (by omega);split
 ·exact fu _ _
 ·exact(zq ts s).weak (by omega)
theorem CU (a:List Int):Nk s 0 (kF ts rec a s):=by
 unfold kF;split
 ·exact(zy ts hr s).bind (λ_ s=>(hr s).2.2.2.2.2.2.2.2 _) 0 (by omega)
 ·exact fu _ _
theorem yw:Nk s (-1) (dI ts rec s):=by
 unfold dI;exact((hr s).2.2.2.2.2.2.1 _ _).bind (λ_ s=>((hr s).2.2.2.2.2.2.2.2 _).bind (λ_ s=>(IJ ts s).bind (λ_ s=>bF _ _ _ _ _ _) (-1) (by omega)) (-1) (by omega)) (-1) (by omega)
end
theorem kI (s:St)(k:Int):Nk s k .out:=λv s' e=>by cases e
theorem bg (ts:List Tok):∀f,CJ (run ts f)
 |0=>λ_=>⟨kI _ _,λ_=>kI _ _,λ_ _=>kI _ _,λ_=>kI _ _,kI _ _,λ_ _=>kI _ _,λ_ _=>kI _ _,λ_=>kI _ _,λ_=>kI _ _⟩
 |f+1=>λs=>
  have hr:=bg ts f
  ⟨jf ts hr s,IK hr s,Fy ts hr s,CL ts hr s,ik ts hr s,CO ts hr s,FB ts hr s,AC ts hr s,CU ts hr s⟩
section
open Tr (Bx ag bt ak aB aa av)
theorem Fr.mono {E E':Nat->Prop}{w w':World}(h:Fr E w w')(k:∀b,E b->E' b):Fr E' w w':=⟨h.os,h.tape,h.output,h.size,λb hb hE=>h.block b hb (λe=>hE (k b e))⟩
theorem fF.fr {X:Nat->Prop}{w w':World}{base g:Nat}{V:Value}{nd:List Nd}{l:List Value}(h:fF w X base V nd)(k:Fr (λb=>b=g) w w')(hg:Bx w g 96 l)(hgb:g<base):fF w' X base V nd:=by
 obtain⟨xs,h1,h2⟩:=h;refine⟨xs,CF h1 k (λb e=>by omega),λj hj =>?_⟩;obtain⟨K,c,e,hk,hkc⟩:=h2 j hj;refine⟨K,c,e,hk.fr k (λb cs hb e =>?_),hkc⟩;subst e;have:=hb.symm.trans hg;simp at this
def PE (g:Nat)(V:Value)(b:Nat):Prop:=b=g\/V.ownBlock=some b
structure Fo (w w':World) (g:Nat) (V V':Value):Prop where
 fr:Fr (PE g V) w w'
 own:∀b,V'.ownBlock=some b->V.ownBlock=some b\/w.heap.size<=b
theorem Fo.refl (w:World)(g:Nat)(V:Value):Fo w w g V V:=⟨Fr.refl _ _,λ_ h =>.inl h⟩
theorem Fo.below {w w':World}{g:Nat}{V:Value}(h:Below w.heap.size w w'):Fo w w' g V V:=⟨Fr.of h,λ_ h =>.inl h⟩
theorem Fo.box {w w':World}{g:Nat}{V:Value}(h:Fr (λb=>b=g) w w'):Fo w w' g V V:=⟨h.mono (λ_ e =>.inl e),λ_ h =>.inl h⟩
theorem Fo.trans {a b c:World}{g:Nat}{V V1 V2:Value}(h:Fo a b g V V1)(k:Fo b c g V1 V2):Fo a c g V V2:=
 ⟨⟨k.fr.os.trans h.fr.os,k.fr.tape.trans h.fr.tape,k.fr.output.trans h.fr.output,Nat.le_trans h.fr.size k.fr.size,λi hi hE=>(k.fr.block i (Nat.lt_of_lt_of_le hi h.fr.size) (λe=>hE (e.elim .inl (λq=>(h.own i q).elim .inr (λq=>by omega))))).trans (h.fr.block i hi hE)⟩,
  λi hi=>(k.own i hi).elim (h.own i) (λq =>.inr (Nat.le_trans h.fr.size q))⟩
theorem Fo.bx {w w':World}{g b:Nat}{V V':Value}{t:TypeId}{l:List Value}(k:Fo w w' g V V')(h:Bx w b t l)(hg:b≠g)(hV:V.ownBlock≠some b):Bx w' b t l/\V'.ownBlock≠some b:=
 ⟨Bx.fr h k.fr (λe=>e.elim hg hV),λe=>(k.own b e).elim hV (λq=>by have:=h.lt;omega)⟩
structure Pz (X:Nat->Prop) (w:World) (base g:Nat) (A:Option Addr) (c:Nat) (ts:List Tok) (V:Value) (s:St):Prop where
 px:Px w g A c ts V s
 nd:fF w X base V s.nd
 hb:base<=w.heap.size
 gb:g<base
 hA:∀a,A=some a->a.block<base
 hn:s.nd.length<=s.nx
 h40:s.op<=40/\s.mo<=40
 ok:nT ts
 hX:∀b,X b->b<w.heap.size
section
variable {X:Nat->Prop} {w w':World} {base g c:Nat} {A:Option Addr} {ts:List Tok} {V V':Value} {s s':St}
theorem Pz.move (h:Pz X w base g A c ts V s)(hF:Fr (λb=>b=g) w w')(hx:Px w' g A c ts V s')(hnd:s'.nd=s.nd)(hnx:s.nx<=s'.nx)(h40:s'.op<=40/\s'.mo<=40):Pz X w' base g A c ts V s':=
 ⟨hx,by rw[hnd];exact h.nd.fr hF h.px.box h.gb,Nat.le_trans h.hb hF.size,h.gb,h.hA,by rw[hnd];exact Nat.le_trans h.hn hnx,h40,h.ok,λb hb=>Nat.lt_of_lt_of_le (h.hX b hb) hF.size⟩
theorem Pz.below (h:Pz X w base g A c ts V s)(hb:Below w.heap.size w w'):Pz X w' base g A c ts V s:=h.move (Fr.of hb) (h.px.below hb) rfl (Nat.le_refl _) h.h40
theorem Pz.lt (h:Pz X w base g A c ts V s):g<w.heap.size:=Nat.lt_of_lt_of_le h.gb h.hb
theorem Pz.own (h:Pz X w base g A c ts V s):V.ownBlock≠some w.heap.size:=λe=>by
 obtain⟨xs,ho,_⟩:=h.nd;have:=(ho.lt _ e).2;omega
theorem Pz.new (h:Pz X w base g A c ts V s):w.heap.size≠g/\V.ownBlock≠some w.heap.size:=⟨by have:=h.lt;omega,h.own⟩
theorem Pz.len (h:Pz X w base g A c ts V s):s.nx<ts.length/\ts.length<=100000:=⟨h.px.nx,h.px.len⟩
def NP (g:Nat)(V:Value)(w:World)(R:Rs)(e:Ending)(w':World):Prop:=∃p er,R=.no p er/\e=.panicked [{v:=Ay p (er:Int),recovered:=false}]/\Fr (PE g V) w w'
def wy (X:Nat->Prop)(base g:Nat)(A:Option Addr)(c:Nat)(ts:List Tok)(V v:Value)(w:World)(R:Rs)(e:Ending)(w':World):Prop:=
 NP g V w R e w'\/∃s',R=.ok [] s'/\e=.returned v/\Pz X w' base g A c ts V s'/\Fo w w' g V V
def az (X:Nat->Prop)(base g:Nat)(A:Option Addr)(c:Nat)(ts:List Tok)(V:Value)(w:World)(R:Rs)(e:Ending)(w':World):Prop:=
 NP g V w R e w'\/∃x s' V',R=.ok [x] s'/\e=.returned (.int .i64 x)/\Pz X w' base g A c ts V' s'/\Fo w w' g V V'
theorem NP.of {p q:Nat}{er:Int}{e:Ending}{R:Rs}(h:qb p er w e w')(hq:er=(q:Int))(hR:R=.no p q):NP g V w R e w':=⟨p,q,hR,by rw[<- hq];exact h.1,Fr.of h.2⟩
theorem Rs.step {R r:Rs}{f:List Int->St->Rs}{v:List Int}{s':St}(HR:R=r.bind f)(hr:r=.ok v s'):R=f v s':=by rw[HR,hr];rfl
theorem Rs.step_no {R r:Rs}{f:List Int->St->Rs}{p e:Nat}(HR:R=r.bind f)(hr:r=.no p e):R=.no p e:=by rw[HR,hr];rfl
theorem Rs.step_in {R r:Rs}{f:List Int->St->Rs}(HR:R=r.bind f)(hne:R ≠ .out):r ≠ .out:=Rs.bind_in (f:=f) (by rw[<- HR];exact hne)
theorem aZ (h:Pz X w base g A c ts V s):Calls Tryz.prog 167 #[.pointer (some ⟨g,0,none⟩)] w (aG (aJ (ai ts s)) w):=eF h.px
theorem fV (h:Pz X w base g A c ts V s)(x:List UInt8):Calls Tryz.prog 103 #[.pointer (some ⟨g,0,none⟩),.string (bs x)] w (aG (.bool (sees ts x s)) w):=jV x h.px
def Hm (X:Nat->Prop)(base g:Nat)(A:Option Addr)(c:Nat)(ts:List Tok)(V v:Value)(s':St)(w:World)(e:Ending)(w':World):Prop:=e=.returned v/\Pz X w' base g A c ts V s'/\Fo w w' g V V
theorem eG (h:Pz X w base g A c ts V s)(hs:(ai ts s).k≠5\/(ai ts s).s≠[]):Calls Tryz.prog 164 #[.pointer (some ⟨g,0,none⟩)] w (Hm X base g A c ts V (aJ (ai ts s)) (ax s) w):=by
 have hn:s.nx+1<ts.length:=hs.elim (h.ok.moreK h.px.nx) (h.ok.more h.px.nx);exact(nV h.px hn).mono λe w' ⟨he,hx,hF⟩=>⟨he,h.move hF hx rfl (Nat.le_succ _) h.h40,Fo.box hF⟩
theorem jg (h:Pz X w base g A c ts V s)(x:List UInt8)(hx:x≠[]):Calls Tryz.prog 166 #[.pointer (some ⟨g,0,none⟩),.string (bs x)] w (wy X base g A c ts V (aJ (ai ts s)) w (iZ ts x s)):=by
 cases hs:sees ts x s with
 |false=>exact(pq x h.px hs).mono λe w' q =>.inl (NP.of q (q:=2) rfl (by unfold iZ;rw[hs];rfl))
 |true=>
  have e1:(ai ts s).s=x:=by simpa [sees]using hs
  exact(m_ x h.px hs (h.ok.more h.px.nx (by rw[e1];exact hx))).mono λe w' ⟨he,hx,hF⟩ =>.inr ⟨ax s,by unfold iZ;rw[if_pos hs],he,h.move hF hx rfl (Nat.le_succ _) h.h40,Fo.box hF⟩
theorem ni (h:Pz X w base g A c ts V s):Calls Tryz.prog 168 #[.pointer (some ⟨g,0,none⟩)] w (wy X base g A c ts V (aJ (ai ts s)) w (gP ts s)):=by
 by_cases hs:(ai ts s).k=1
 ·exact(Cy h.px hs (h.ok.moreK h.px.nx (by rw[hs];decide))).mono λe w' ⟨he,hx,hF⟩ =>.inr ⟨ax s,by unfold gP;rw[if_pos hs],he,h.move hF hx rfl (Nat.le_succ _) h.h40,Fo.box hF⟩
 ·exact(Fv h.px hs).mono λe w' q =>.inl (NP.of q (q:=2) rfl (by unfold gP;rw[if_neg hs]))
theorem Kw (h:Pz X w base g A c ts V s):Calls Tryz.prog 105 #[.pointer (some ⟨g,0,none⟩)] w (wy X base g A c ts V (.tuple #[]) w (qm ts s)):=by
 by_cases hs:(ai ts s).k=5
 ·exact(Fw h.px hs).mono λe w' ⟨he,hb⟩ =>.inr ⟨s,by unfold qm;rw[if_pos hs],he,h.below hb,Fo.below hb⟩
 ·exact(IG h.px hs).mono λe w' q =>.inl (NP.of q (q:=2) rfl (by unfold qm;rw[if_neg hs]))
theorem jE (h:Pz X w base g A c ts V s)(x:List UInt8)(hx:x≠[]):Calls Tryz.prog 172 #[.pointer (some ⟨g,0,none⟩),.string (bs x)] w (wy X base g A c ts V (aJ (ai ts s)) w (ja ts x s)):=by
 cases hs:sees ts x s with
 |false=>exact(CB x h.px hs).mono λe w' q =>.inl (NP.of q (q:=2) rfl (by unfold ja iZ;rw[hs];rfl))
 |true=>
  by_cases ho:s.op=40
  ·exact(yn x h.px hs ho).mono λe w' q =>.inl (NP.of q (q:=6) rfl (by unfold ja;rw[if_pos ⟨hs,ho⟩]))
  ·have e1:(ai ts s).s=x:=by simpa [sees]using hs
   have h40:=h.h40;exact(AA x h.px hs (h.ok.more h.px.nx (by rw[e1];exact hx)) (by omega) h40.2).mono λe w' ⟨he,hx,hF⟩ =>.inr ⟨_,by unfold ja iZ;rw[if_neg (λq=>ho q.2),if_pos hs];rfl,he,h.move hF hx rfl (Nat.le_succ _) (by show s.op+1<=40/\max s.mo (s.op+1)<=40;omega),Fo.box hF⟩
theorem jh (h:Pz X w base g A c ts V s)(x:List UInt8)(hx:x≠[])(ho:1<=s.op):Calls Tryz.prog 239 #[.pointer (some ⟨g,0,none⟩),.string (bs x)] w (wy X base g A c ts V (.tuple #[]) w (ll ts x s)):=by
 cases hs:sees ts x s with
 |false=>exact(Az x h.px hs).mono λe w' q =>.inl (NP.of q (q:=2) rfl (by unfold ll iZ;rw[hs];rfl))
 |true=>
  have e1:(ai ts s).s=x:=by simpa [sees]using hs
  have h40:=h.h40;exact(yo x h.px hs (h.ok.more h.px.nx (by rw[e1];exact hx)) ho).mono λe w' ⟨he,hx,hF⟩ =>.inr ⟨_,by unfold ll iZ;rw[if_pos hs];rfl,he,h.move hF hx rfl (Nat.le_succ _) (by show s.op-1<=40/\s.mo<=40;omega),Fo.box hF⟩
theorem qX (h:Pz X w base g A c ts V s):Calls Tryz.prog 171 #[.pointer (some ⟨g,0,none⟩)] w (az X base g A c ts V w (kT ts s)):=by
 by_cases hs:typeOf (ai ts s).s=0
 ·exact(wo h.px hs).mono λe w' q =>.inl (NP.of q (q:=2) rfl (by unfold kT;simp only;rw[if_pos hs]))
 ·exact(uP h.px hs (h.ok.more h.px.nx (λe=>hs (by rw[e];decide)))).mono λe w' ⟨he,hx,hF⟩ =>.inr ⟨_,ax s,V,by unfold kT;simp only;rw[if_neg hs],he,h.move hF hx rfl (Nat.le_succ _) h.h40,Fo.box hF⟩
theorem wB (h:Pz X w base g A c ts V s)(er:Int):Calls Tryz.prog 174 #[.pointer (some ⟨g,0,none⟩),.int .i64 er] w (aG (.agg #[.int .i64 ((ai ts s).p:Int),.int .i64 er]) w):=gW er h.px
theorem qY (hX:∀b,X b->b<w.heap.size)(ks:List Int):Kd (w.alloc (.cells (ks.map (Value.int .i64)).toArray 3)) X (some ⟨w.heap.size,0,none⟩) ks:=λh0=>
 ⟨w.heap.size,_,rfl,World.alloc_heap_new _ _,λj hj=>by simp[hj],λq=>by have:=hX _ q;omega⟩
theorem lG (w:World)(K:Option Addr):Kd w X K []:=λh0=>absurd h0 (by simp)
theorem jY (h:Pz X w base g A c ts V s)(kd nn pl:Int)(tx:List UInt8)(K0 KK:Option Addr)(n0 c0 kn kc:Nat)(ks:List Int)(hK:Kd w X KK ks)(hkn:kn=ks.length/\kn<=kc){s0:St}{R:Rs}(HR:R=.ok [(s.nd.length:Int)] {s with nd:=s.nd++[⟨kd,nn,pl,tx,ks⟩]})(hk:Nk s0 0 R)(h0:s0.nd.length<=s0.nx) :
  Calls Tryz.prog 106 #[.pointer (some ⟨g,0,none⟩),.agg #[.int .i64 kd,.int .i64 nn,.int .i64 pl,.string (bs tx),.slice K0 n0 c0],.slice KK kn kc] w (az X base g A c ts V w R):=by
 have hl:=h.px.len;have hx:=h.px.nx;have hn:=h.hn;have hq:=(hk _ _ HR).1.1;refine(uO h.px h.nd kd nn pl tx K0 KK n0 c0 kn kc ks hK hkn h.hb h.gb h.hA (by omega)).mono ?_;rintro e w' ⟨V',rfl,hX,hN,hF,hO⟩;refine .inr ⟨_,_,V',HR,rfl,⟨hX,hN,Nat.le_trans h.hb hF.size,h.gb,h.hA,?_,h.h40,h.ok,λb hb=>Nat.lt_of_lt_of_le (h.hX b hb) hF.size⟩,⟨hF,hO⟩⟩;simp only[List.length_append,List.length_cons,List.length_nil]at hq |-;omega
theorem az.after {w0 w1:World}{V0 V1:Value}{R:Rs}{e:Ending}(f:Fo w0 w1 g V0 V1)(h:az X base g A c ts V1 w1 R e w'):az X base g A c ts V0 w0 R e w':=by
 rcases h with⟨p,er,hr,he,hF⟩ |⟨x,s',V',hr,he,hz,hF⟩
 ·exact .inl ⟨p,er,hr,he,(f.trans ⟨hF,λ_ h =>.inl h⟩).fr⟩
 ·exact .inr ⟨x,s',V',hr,he,hz,f.trans hF⟩
theorem ah {w0 w1:World}{V0 V1:Value}{R:Rs}{p er:Nat}(f:Fo w0 w1 g V0 V1)(hr:R=.no p er)(hF:Fr (PE g V1) w1 w'):NP g V0 w0 R (.panicked [{v:=Ay p (er:Int),recovered:=false}]) w':=⟨p,er,hr,rfl,(f.trans ⟨hF,λ_ h =>.inl h⟩).fr⟩
end
end
section
set_option maxHeartbeats 1500000
set_option maxRecDepth 100000
open Tr (Bx ag bt ak aB aa av)
theorem pE {X:Nat->Prop}{w:World}{base g c:Nat}{A:Option Addr}{ts:List Tok}{V:Value}{s:St}(h:Pz X w base g A c ts V s)(kd nn pl:Int)(tx:List UInt8)(K0:Option Addr)(n0 c0:Nat)(x1:Int){s0:St}{R:Rs}(HR:R=.ok [(s.nd.length:Int)] {s with nd:=s.nd++[⟨kd,nn,pl,tx,[x1]⟩]})(hk:Nk s0 0 R)(h0:s0.nd.length<=s0.nx) :
  Calls Tryz.prog 106 #[.pointer (some ⟨g,0,none⟩),.agg #[.int .i64 kd,.int .i64 nn,.int .i64 pl,.string (bs tx),.slice K0 n0 c0],.slice (some ⟨w.heap.size,0,none⟩) 1 1] (w.alloc (.cells #[.int .i64 x1] 3)) (az X base g A c ts V w R):=
 (jY (h.below (ag w (.cells #[.int .i64 x1] 3))) kd nn pl tx K0 (some ⟨w.heap.size,0,none⟩) n0 c0 1 1 [x1] (qY h.hX [x1]) ⟨rfl,Nat.le_refl _⟩ HR hk h0).mono λ_ _ q=>q.after (Fo.below (ag _ _))
theorem CV {X:Nat->Prop}{w:World}{base g c:Nat}{A:Option Addr}{ts:List Tok}{V:Value}{s:St}(h:Pz X w base g A c ts V s)(kd nn pl:Int)(tx:List UInt8)(K0:Option Addr)(n0 c0:Nat)(x1 x2:Int){s0:St}{R:Rs}(HR:R=.ok [(s.nd.length:Int)] {s with nd:=s.nd++[⟨kd,nn,pl,tx,[x1,x2]⟩]})(hk:Nk s0 0 R)(h0:s0.nd.length<=s0.nx) :
  Calls Tryz.prog 106 #[.pointer (some ⟨g,0,none⟩),.agg #[.int .i64 kd,.int .i64 nn,.int .i64 pl,.string (bs tx),.slice K0 n0 c0],.slice (some ⟨w.heap.size,0,none⟩) 2 2] (w.alloc (.cells #[.int .i64 x1,.int .i64 x2] 3)) (az X base g A c ts V w R):=
 (jY (h.below (ag w (.cells #[.int .i64 x1,.int .i64 x2] 3))) kd nn pl tx K0 (some ⟨w.heap.size,0,none⟩) n0 c0 2 2 [x1,x2] (qY h.hX [x1,x2]) ⟨rfl,Nat.le_refl _⟩ HR hk h0).mono λ_ _ q=>q.after (Fo.below (ag _ _))
theorem IL {X:Nat->Prop}{w:World}{base g c:Nat}{A:Option Addr}{ts:List Tok}{V:Value}{s:St}(h:Pz X w base g A c ts V s)(kd nn pl:Int)(tx:List UInt8)(K0:Option Addr)(n0 c0:Nat)(x1 x2 x3:Int){s0:St}{R:Rs}(HR:R=.ok [(s.nd.length:Int)] {s with nd:=s.nd++[⟨kd,nn,pl,tx,[x1,x2,x3]⟩]})(hk:Nk s0 0 R)(h0:s0.nd.length<=s0.nx) :
  Calls Tryz.prog 106 #[.pointer (some ⟨g,0,none⟩),.agg #[.int .i64 kd,.int .i64 nn,.int .i64 pl,.string (bs tx),.slice K0 n0 c0],.slice (some ⟨w.heap.size,0,none⟩) 3 3] (w.alloc (.cells #[.int .i64 x1,.int .i64 x2,.int .i64 x3] 3)) (az X base g A c ts V w R):=
 (jY (h.below (ag w (.cells #[.int .i64 x1,.int .i64 x2,.int .i64 x3] 3))) kd nn pl tx K0 (some ⟨w.heap.size,0,none⟩) n0 c0 3 3 [x1,x2,x3] (qY h.hX [x1,x2,x3]) ⟨rfl,Nat.le_refl _⟩ HR hk h0).mono λ_ _ q=>q.after (Fo.below (ag _ _))
theorem yz {X:Nat->Prop}{w:World}{base g c:Nat}{A:Option Addr}{ts:List Tok}{V:Value}{s:St}(h:Pz X w base g A c ts V s)(kd:Nat):Calls Tryz.prog 300 #[.pointer (some ⟨g,0,none⟩),.int .i64 (kd:Int)] w (az X base g A c ts V w (iJ ts kd s)):=by
 have hk:Nk s 0 (iJ ts kd s):=nW ts s kd;obtain⟨R,HR⟩:∃R,R=iJ ts kd s:=⟨_,rfl⟩;rw[<- HR]at hk |-;unfold iJ at HR;dsimp only at HR;have HC:=hid (ni h);generalize ai ts s=t at *
 have HK:=hid (And.intro HR (And.intro hk h.hn));clear HR hk h;unfold aJ at *
 go_enter Tryz.func300,Tryz.ntmps300
 go_wp2_with (go_at_call 168;refine(HC.out).mono ?_;rintro e w1 (⟨p,er,hr,rfl,hF⟩ |⟨s1,hr,rfl,hz,hF⟩)<;>replace hr:=hid hr)
 ·exact⟨rfl,.inl ⟨p,er,Rs.step_no HK.out.1 hr.out,rfl,hF⟩⟩
 ·have HR1:=Rs.step HK.out.1 hr.out;obtain⟨W2,hW2⟩:∃W2,w1.alloc (.cells #[.int .i64 (t.k:Int),.int .i64 t.n,.int .i64 (t.p:Int),.string (bs t.s)] 105)=W2:=⟨_,rfl⟩;rw[hW2];have hb2:Below w1.heap.size w1 W2:=by rw[<- hW2];exact ag _ _
  have hT:Bx W2 w1.heap.size 105 [.int .i64 (t.k:Int),.int .i64 t.n,.int .i64 (t.p:Int),.string (bs t.s)]:=by rw[<- hW2];exact Bx.new w1 105 _
  have hz2:=hz.below hb2;have HA:=hid (jY hz2 (kd:Int) 0 (t.p:Int) t.s none none 0 0 0 0 [] (lG _ _) ⟨rfl,Nat.le_refl _⟩ HR1 HK.out.2.1 HK.out.2.2);have HF:=hid (hF.trans (Fo.below (V:=V) hb2));have t2:=(hT.cell 2).trans rfl;have t3:=(hT.cell 3).trans rfl;clear hz hF hr HR1 hz2 hT hb2 HC HK;go_wp2_with (go_at_call 106;refine(HA.out).mono ?_;rintro e w3 (⟨p,er,hr,rfl,hF⟩ |⟨x,s3,V3,hr,rfl,hz,hF⟩)<;>replace hr:=hid hr)
  ·exact⟨rfl,.inl (ah HF.out hr.out hF)⟩
  ·go_ret
   exact .inr ⟨x,s3,V3,hr.out,rfl,hz,HF.out.trans hF⟩
theorem CW {X:Nat->Prop}{w:World}{base g c:Nat}{A:Option Addr}{ts:List Tok}{V:Value}{s:St}(h:Pz X w base g A c ts V s)(kd:Nat)(hs:(ai ts s).s≠[]):Calls Tryz.prog 294 #[.pointer (some ⟨g,0,none⟩),.int .i64 (kd:Int)] w (az X base g A c ts V w (jC ts kd s)):=by
 have hk:Nk s 0 (jC ts kd s):=(uQ ts s kd).weak (by omega);obtain⟨R,HR⟩:∃R,R=jC ts kd s:=⟨_,rfl⟩;rw[<- HR]at hk |-;unfold jC at HR;dsimp only at HR;have HT:=hid (eG h (.inr hs));have hf:=aU (ai ts s);have hf2:=aM (ai ts (ax s));have HC:=hid (λw' (q:Pz X w' base g A c ts V (ax s))=>ni q);have HK:=hid (And.intro HR (And.intro hk h.hn));have HA:=hid (λ(w':World) (s2:St) (q:Pz X w' base g A c ts V s2) (hr:gP ts (ax s)=.ok [] s2)=>jY q (kd:Int) 0 ((ai ts s).p:Int) (ai ts (ax s)).s none none 0 0 0 0 [] (lG _ _) ⟨rfl,Nat.le_refl _⟩ (Rs.step HR hr :) hk h.hn);generalize aJ (ai ts (ax s))=v2 at *
 generalize aJ (ai ts s)=v at *
 generalize (ai ts (ax s)).s=a at *
 generalize ((ai ts s).p:Int)=p0 at *
 clear hs HR hk h;go_enter Tryz.func294,Tryz.ntmps294
 go_wp2_with (first|(go_at_call 164;refine HT.out.mono ?_;rintro e w1 ⟨rfl,hz1,hF1⟩) |(go_at_call 168;refine(HC.out _ hz1).mono ?_;rintro e w2 (⟨p,er,hr,rfl,hF⟩ |⟨s2,hr,rfl,hz2,hF2⟩)<;>replace hr:=hid hr) |(go_at_call 106;refine(HA.out _ _ hz2 hr.out).mono ?_;rintro e w3 (⟨p,er,hr,rfl,hF⟩ |⟨x,s3,V3,hr,rfl,hz3,hF3⟩)<;>replace hr:=hid hr))
 ·exact⟨rfl,.inl (ah hF1 (Rs.step_no HK.out.1 hr.out) hF)⟩
 ·exact⟨rfl,.inl (ah (hF1.trans hF2) hr.out hF)⟩
 ·go_ret
  exact .inr ⟨x,s3,V3,hr.out,rfl,hz3,(hF1.trans hF2).trans hF3⟩
theorem zz {X:Nat->Prop}{w:World}{base g c:Nat}{A:Option Addr}{ts:List Tok}{V:Value}{s:St}(h:Pz X w base g A c ts V s)(kd:Nat)(pl:Int):Calls Tryz.prog 165 #[.pointer (some ⟨g,0,none⟩),.int .i64 (kd:Int),.int .i64 pl] w (az X base g A c ts V w (iF ts kd pl s)):=by
 have hk:Nk s 0 (iF ts kd pl s):=(nX ts s kd pl).weak (by omega);obtain⟨R,HR⟩:∃R,R=iF ts kd pl s:=⟨_,rfl⟩;rw[<- HR]at hk |-;unfold iF at HR;dsimp only at HR;have HT:=hid (ni h);have hf:=aM (ai ts s);have HC:=hid (λw' s' (q:Pz X w' base g A c ts V s')=>qX q);have HK:=hid (And.intro HR (And.intro hk h.hn));have HA:=hid (λ(w':World) (V':Value) (x:Int) (s1 s2:St) (q:Pz X w' base g A c ts V' s2) (hr1:gP ts s=.ok [] s1) (hr:kT ts s1=.ok [x] s2)=>jY q (kd:Int) x pl (ai ts s).s none none 0 0 0 0 [] (lG _ _) ⟨rfl,Nat.le_refl _⟩ (Rs.step (Rs.step HR hr1) hr :) hk h.hn);generalize aJ (ai ts s)=v at *
 generalize (ai ts s).s=a at *
 clear HR hk h;go_enter Tryz.func165,Tryz.ntmps165
 go_wp2_with (first|(go_at_call 168;refine(HT.out).mono ?_;rintro e w1 (⟨p,er,hr,rfl,hF⟩ |⟨s1,hr1,rfl,hz1,hF1⟩)<;>first|replace hr:=hid hr |replace hr1:=hid hr1) |(go_at_call 171;refine(HC.out _ _ hz1).mono ?_;rintro e w2 (⟨p,er,hr,rfl,hF⟩ |⟨n,s2,V2,hr2,rfl,hz2,hF2⟩)<;>first|replace hr:=hid hr |replace hr2:=hid hr2) |(go_at_call 106;refine(HA.out _ _ _ _ _ hz2 hr1.out hr2.out).mono ?_;rintro e w3 (⟨p,er,hr,rfl,hF⟩ |⟨x,s3,V3,hr,rfl,hz3,hF3⟩)<;>replace hr:=hid hr))
 ·exact⟨rfl,.inl ⟨p,er,Rs.step_no HK.out.1 hr.out,rfl,hF⟩⟩
 ·exact⟨rfl,.inl (ah hF1 (Rs.step_no (Rs.step HK.out.1 hr1.out) hr.out) hF)⟩
 ·exact⟨rfl,.inl (ah (hF1.trans hF2) hr.out hF)⟩
 ·go_ret
  exact .inr ⟨x,s3,V3,hr.out,rfl,hz3,(hF1.trans hF2).trans hF3⟩
theorem uS {X:Nat->Prop}{w:World}{base g c:Nat}{A:Option Addr}{ts:List Tok}{V:Value}{s:St}(h:Pz X w base g A c ts V s):Calls Tryz.prog 170 #[.pointer (some ⟨g,0,none⟩)] w (az X base g A c ts V w (kE ts s)):=by
 have HT:=hid (aZ h);have hf:=aU (ai ts s);have HC:=hid (λw' (q:Below w.heap.size w w')=>zz (h.below q) 4 ((ai ts s).p:Int));obtain⟨R,HR⟩:∃R,R=kE ts s:=⟨_,rfl⟩;rw[<- HR];unfold kE at HR;rw[<- HR]at HC;generalize aJ (ai ts s)=v at *
 generalize ((ai ts s).p:Int)=p0 at *
 clear h HR;go_enter Tryz.func170,Tryz.ntmps170
 go_wp2_with (first|(go_at_call 167;refine HT.out.mono ?_;rintro e w1 ⟨rfl,hb1⟩) |(go_at_call 165;refine(HC.out _ hb1).mono ?_;rintro e w3 (⟨p,er,hr,rfl,hF⟩ |⟨x,s3,V3,hr,rfl,hz3,hF3⟩)<;>replace hr:=hid hr))
 ·exact⟨rfl,.inl (ah (Fo.below hb1) hr.out hF)⟩
 ·go_ret
  exact .inr ⟨x,s3,V3,hr.out,rfl,hz3,(Fo.below hb1).trans hF3⟩
end
end Go.Proofs.YteecfjhjllajlaaGreatDoor
