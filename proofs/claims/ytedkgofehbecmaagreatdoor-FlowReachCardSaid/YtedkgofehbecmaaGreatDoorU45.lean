/- PROVED here: a node of the graph, by its number, and what comes after it. No condition but those in each theorem's own head. -/
import Derived.Test.YtedkgofehbecmaaGreatDoorU42
import Derived.Test.YtedkgofehbecmaaGreatDoorU43
namespace Go.Proofs.YtedkgofehbecmaaGreatDoor
open Go
def nthG (G:List Gn)(i:Nat):Gn:=G[i]?.getD ⟨0,0,0,[],-1⟩
theorem nthG_at {G:List Gn}{i:Nat}(h:i<G.length):nthG G i=G[i]:=by unfold nthG;rw[List.getElem?_eq_getElem h];rfl
def aftG (G:List Gn)(i:Nat):List Int:=aftL (nthG G i)
section
open Tr (nth stK)
variable {l : List Tr.Nd} {b : Nat -> Nat} {R : Nat -> Bool}
theorem bd_is (h:RtN l b):∀(ks:List Int) (first e:Nat) (t:List (Nat × Nat)) (s:BdS),Ch b ks first e→(∀k ∈ ks,∃m:Nat,k=(m:Int)∧m<l.length-1∧((nth l m).kd=2∧b m=m∨(nth l m).kd=3))→IsG l b R t first s→∃t',IsG l b R t' e (bdG l R ks first s)
 | [],first,e,t,s,hc,_,hs=>by unfold Ch at hc;subst hc;exact⟨t,hs⟩
 |k :: ks,first,e,t,s,hc,hk,hs=>by
  obtain⟨m,rfl,hb,hc⟩:=hc
  obtain⟨m',e1,hml,hkd⟩:=hk (m:Int) (by simp)
  obtain rfl:m=m':=by omega
  unfold bdG
  rw[Int.toNat_natCast]
  rcases hkd with⟨h2,hbm⟩ |h3
  ·rw[if_neg (by rw[h2];decide)]
   exact bd_is h ks (m+1) e t s hc (fun k hk'=>hk k (by simp[hk'])) (is_glob hs h2 (hb.symm.trans hbm))
  ·rw[if_pos h3]
   exact bd_is h ks (m+1) e _ _ hc (fun k hk'=>hk k (by simp[hk'])) (is_proc h hs (by omega) h3 hb)
theorem gr_is (h:RtN l b)(R:Nat→Bool):∃t,IsG l b R t (l.length-1) (grG l R):=by
 have hl:=h.len
 have hst:=fl_st h (p:=l.length-1) (by omega)
 have hc:=ch_of _ _ _ hst
 rw[List.reverse_reverse,h.zero]at hc
 exact bd_is h _ _ _ [] _ hc (fun k hk=>fl_root h hk) ⟨rfl,rfl,fun p hp=>absurd hp (Nat.not_lt_zero _),fun x hx=>(List.not_mem_nil hx).elim,by rw[stsL_same];rfl,fun q hq=>absurd hq (Nat.not_lt_zero _),fun q hq=>absurd hq (Nat.not_lt_zero _),Nat.le_refl _⟩
end
end Go.Proofs.YtedkgofehbecmaaGreatDoor
