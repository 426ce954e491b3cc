/- PROVED here: parts TyTrPa TyCp of the claim. No condition but those in each theorem's own head. -/
import Derived.Test.YtignojhijmamhaaGreatJ05
import Derived.Test.YtignojhijmamhaaGreatJ04
import Derived.Test.YtignojhijmamhaaGreatJ22
namespace Go.Proofs.YtignojhijmamhaaGreat.Ty.Tr
open Go Go.RowKit
def paL (l:List Nd)(r:Nat):Nat→Nat→Int
 |0=>fun j=>if j=r then -1 else 0
 |n+1=>fun j=>if (j:Int) ∈ kidsAt l n then (n:Int) else paL l r n j
def IsPost (l:List Int)(w:World)(e:Ending)(w':World):Prop:=∃A c,e = .returned (.slice A l.length c)∧Ints w' A l∧Below w.heap.size w w'
open Classical in
noncomputable def par (l:List Nd)(r:Int):List Int:=if Snd l r then (List.range l.length).map (paL l (l.length-1) l.length) else []
open Classical in
theorem par_yes {l:List Nd}{r:Int}(h:Snd l r):par l r=(List.range l.length).map (paL l (l.length-1) l.length):=if_pos h
open Classical in
theorem par_no {l:List Nd}{r:Int}(h:¬Snd l r):par l r=[]:=if_neg h
theorem stK_count {b:Nat→Nat}(k:Int):∀(ks:List Int) (s e:Nat),(∀q,q<s→b q≤q)→stK b ks s=some e→ks.count k≤1
 | [],_,_,_,_=>by simp
 |x :: ks,s,e,hb,h=>by
  unfold stK at h
  split at h
  ·cases h
  split at h
  case isFalse=>cases h
  case isTrue h0 h1=>
   have h2:=hb (s-1) (by omega)
   have hb':∀q,q<b (s-1)→b q≤q:=fun q hq=>hb q (by omega)
   rw[List.count_cons]
   by_cases e1:x=k
   ·have h3:ks.count k=0:=List.count_eq_zero.2 fun hm=>by
     obtain⟨m,e2,e3,_⟩:=stK_mem ks _ e hb' h k hm
     omega
    rw[h3];split<;>omega
   ·have:=stK_count k ks _ e hb' h
    have e2:(x==k)=false:=by simpa using e1
    rw[e2];simpa using this
theorem StU.count {l:List Nd}{b:Nat→Nat}{n p:Nat}(h:StU l b n)(hp:p<n){k:Int}(hk:k ∈ kidsAt l p):(kidsAt l p).count k=1:=by
 have h1:=stK_count k _ p _ (fun q hq=>h.le q (by omega)) (h p hp)
 rw[List.count_reverse]at h1
 have h2:=List.count_pos_iff.2 hk
 omega
theorem StU.parent {l:List Nd}{b:Nat→Nat}{n:Nat}(h:StU l b n):∀p,p<n→∀q,b p≤q→q<p→∃m,m≤p∧(q:Int) ∈ kidsAt l m:=by
 intro p
 induction p using Nat.strongRecOn with
 |_ p ih=>
  intro hp q h1 h2
  obtain⟨m,e1,e2,e3,e4⟩:=h.inKid hp h1 h2
  by_cases e:q=m
  ·subst e;exact⟨p,Nat.le_refl _,e1⟩
  ·obtain⟨m',h3,h4⟩:=ih m e4 (by omega) q e2 (by omega)
   exact⟨m',by omega,h4⟩
theorem paL_some {l:List Nd}{r:Nat}{q:Nat}:∀ {n:Nat},(∃m,m<n∧(q:Int) ∈ kidsAt l m)→∃m:Nat,m<n∧(q:Int) ∈ kidsAt l m∧paL l r n q=(m:Int)
 |0,⟨m,hm,_⟩=>absurd hm (Nat.not_lt_zero m)
 |n+1,⟨m,hm,hk⟩=>by
  by_cases e:(q:Int) ∈ kidsAt l n
  ·exact⟨n,by omega,e,if_pos e⟩
  ·have:m≠n:=fun e'=>e (e'▸hk)
   obtain⟨m',h1,h2,h3⟩:=paL_some (r:=r) (n:=n) ⟨m,by omega,hk⟩
   exact⟨m',by omega,h2,(if_neg e).trans h3⟩
theorem paL_none {l:List Nd}{r:Nat}{q:Nat}:∀ {n:Nat},(∀m,m<n→(q:Int) ∉ kidsAt l m)→paL l r n q=if q=r then -1 else 0
 |0,_=>rfl
 |n+1,h=>(if_neg (h n (by omega))).trans (paL_none fun m hm=>h m (by omega))
theorem par_root {l:List Nd}{b:Nat→Nat}{n:Nat}(h:StU l b n):paL l (n-1) n (n-1) = -1:=by
 rw[paL_none fun m hm hk =>?_,if_pos rfl]
 obtain⟨m',e,h1,_⟩:=h.kid hm hk
 omega
theorem par_node {l:List Nd}{b:Nat→Nat}{n i:Nat}(h:StU l b n)(h0:b (n-1)=0)(hi:i<n-1):∃m:Nat,m<n∧i<m∧paL l (n-1) n i=(m:Int)∧(kidsAt l m).count (i:Int)=1:=by
 obtain⟨m,h1,h2⟩:=h.parent (n-1) (by omega) i (by omega) hi
 obtain⟨m,h3,h4,h5⟩:=paL_some (r:=n-1) (n:=n) ⟨m,by omega,h2⟩
 obtain⟨m',e,h6,_⟩:=h.kid h3 h4
 exact⟨m,h3,by omega,h5,h.count h3 h4⟩
end Go.Proofs.YtignojhijmamhaaGreat.Ty.Tr
namespace Go.Proofs.YtignojhijmamhaaGreat.Ty
open Go Go.RowKit
open Tr (Bx heap1 bt Nds Ints VPost BPost rgB par par_yes par_root par_node paL kidsAt IsPost)
theorem par_at {l:List Tr.Nd}{r:Int}(hr:rgB l r=true):(par l r).length=l.length∧∀i (hi:i<(par l r).length),(par l r)[i]=paL l (l.length-1) l.length i:=by
 have h1:=(rg_parts hr).1
 rw[par_yes h1]
 exact⟨by simp,fun i hi=>by simp⟩
theorem RtN.at3 {l:List Tr.Nd}{b:Nat→Nat}(h:RtN l b){i:Nat}(hi:i<l.length) :
  ((ndA l i).kd=3∧owA l i=(i:Int)∧i<l.length-1)∨(i=l.length-1∧(ndA l i).kd=1∧owA l i = -1) ∨
  ((ndA l i).kd≠3∧i<l.length-1∧∃m:Nat,m<l.length∧paL l (l.length-1) l.length i=(m:Int)∧owA l i=owA l m):=by
 by_cases hroot:i=l.length-1
 ·right;left
  refine⟨hroot,?_,?_⟩
  ·rw[hroot];exact h.root
  ·rw[hroot];exact h.rootow
 ·have hlt:i<l.length-1:=by omega
  by_cases h3:(ndA l i).kd=3
  ·exact Or.inl ⟨h3,owA_proc hi h3,hlt⟩
  ·right;right
   obtain⟨m,h4,_,h5,h6⟩:=par_node h.st h.zero hlt
   have h7:(i:Int) ∈ kidsAt l m:=List.count_pos_iff.1 (by omega)
   have h8:(i:Int) ∈ (ndA l m).ks:=by rw[ndA_eq h4,← Tr.kidsAt_eq h4];exact h7
   exact⟨h3,hlt,m,h4,h5,h.kid h4 h8 h3⟩
theorem dn_no {l:List Tr.Nd}{i:Nat}{nm:ByteArray}(h:owA l i = -1):dnA l i nm=none:=by unfold dnA;rw[if_pos h]
structure RT (w:World) (A:Option Addr) (n:Nat) (l:List Tr.Nd) (r:Int):Prop where
 tt:TT w A n l
 rg:rgB l r=true
theorem RT.below {w w':World}{A:Option Addr}{n:Nat}{l:List Tr.Nd}{r:Int}(h:RT w A n l r)(hb:Below w.heap.size w w'):RT w' A n l r:=⟨h.tt.below hb,h.rg⟩
theorem RT.rtn {w:World}{A:Option Addr}{n:Nat}{l:List Tr.Nd}{r:Int}(h:RT w A n l r):∃b,RtN l b:=(rtn_of h.rg).1
theorem RT.root {w:World}{A:Option Addr}{n:Nat}{l:List Tr.Nd}{r:Int}(h:RT w A n l r):r=((l.length-1:Nat):Int):=by
 obtain⟨⟨b,hb⟩,_,e⟩:=rtn_of h.rg
 have:=hb.len
 rw[e];omega
theorem RT.few {w:World}{A:Option Addr}{n:Nat}{l:List Tr.Nd}{r:Int}(h:RT w A n l r):n≤4000:=by
 have:=(rtn_of h.rg).2.1
 rw[h.tt.len];exact this
end Go.Proofs.YtignojhijmamhaaGreat.Ty
