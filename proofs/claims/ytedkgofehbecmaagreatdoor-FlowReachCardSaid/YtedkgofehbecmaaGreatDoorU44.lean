/- PROVED here: parts Rd of the claim. No condition but those in each theorem's own head. -/
import Derived.Test.YtedkgofehbecmaaGreatDoorU42
namespace Go.Proofs.YtedkgofehbecmaaGreatDoor
open Go.Lib (hid)
open Go Go.RowKit
open Tr (Bx heap1 bt Nds Ints BPost rgB)
set_option maxRecDepth 100000 in
set_option maxHeartbeats 1500000 in
theorem among31_any {w:World}{A:Option Addr}{ts:List Int}(hA:Ints w A ts)(hx:ts.length<=1000000)(c:Nat)(z:Int):Calls Tryz.prog 31 #[.slice A ts.length c,.int .i64 z] w (VPost (.bool (decide (z ∈ ts))) w):=by
 have HA:=hid hA
 obtain⟨n,hn⟩:∃n,ts.length=n:=⟨_,rfl⟩
 rw[hn]
 have hn1:n<=1000000:=by omega
 have HN:=hid hn
 obtain⟨bz,hbz⟩:∃bz,decide (z ∈ ts)=bz:=⟨_,rfl⟩
 rw[hbz]
 have HBZ:=hid hbz
 clear hA hn hx hbz
 go_enter Tryz.func31,Tryz.ntmps31
 go_wp2
 go_loopg [5] n (λk v5 wr=>∃i:Nat,i+k=n/\v5 = .int .i64 (i:Int)/\Below w.heap.size w wr/\z ∉ ts.take i)
 case atStart=>exact⟨0,Nat.zero_add _,rfl,Below.refl _ _,by simp⟩
 case round=>
  obtain⟨i,hi,rfl,hb,ht⟩:=hrel
  have HBW:=hid hb
  have HT:=hid ht
  have HGK:=hid hi
  clear ht hi
  by_cases hlt:i<n
  ·have hiz:(i:Int)<(n:Int):=by omega
   obtain⟨b1,o1,e1,hl1,hc1⟩:=HA.out (by have:=HN.out;omega)
   subst e1
   have hxi:i<ts.length:=by rw[HN.out];exact hlt
   have y1:=(hb.cell (p:=⟨b1,o1+i,none⟩) hl1).trans (hc1 i hxi)
   have HX:=hid (show ts.take (i+1)=ts.take i++[ts[i]]from List.take_succ_eq_append_getElem hxi)
   have HME:=hid (show ts[i] ∈ ts from List.getElem_mem hxi)
   generalize ts[i]=u at *
   clear hc1 hxi hl1 hb
   by_cases huv:u=z
   ·subst huv
    have HB1:=hid (show bz=true by rw[<- HBZ.out];exact decide_eq_true HME.out)
    go_wp2
    go_ret
    rw[HB1.out]
    exact⟨rfl,HBW.out⟩
   ·have hne:(u==z)=false:=beq_eq_false_iff_ne.2 huv
    go_wp2
    go_roundg (n-(i+1))
    case measure=>have:=HGK.out;omega
    case rel=>exact⟨i+1,by omega,by go_num,HBW.out,by rw[HX.out,List.mem_append,List.mem_singleton];exact λh=>h.elim HT.out λe=>huv e.symm⟩
  ·obtain rfl:i=n:=by have:=HGK.out;omega
   have hiz:¬(i:Int)<(i:Int):=by omega
   have HB1:=hid (show bz=false by
    rw[<- HBZ.out]
    refine decide_eq_false ?_
    have:=HT.out
    rwa [List.take_of_length_le (by rw[HN.out];exact Nat.le_refl _)]at this)
   clear hb
   go_wp2
   go_ret
   rw[HB1.out]
   exact⟨rfl,HBW.out⟩
set_option maxRecDepth 100000 in
set_option maxHeartbeats 2000000 in
theorem after_out (w:World)(NA PA:Option Addr)(N cN np cp:Nat)(z:Int)(hz:¬(0<=z/\z<(N:Int))):Calls Tryz.prog 27 #[.agg #[.slice NA N cN,.slice PA np cp],.int .i64 z] w (IsP [] w):=by
 have HB:=hid (heap1 w (.cells #[.slice NA N cN,.slice PA np cp] 30))
 have a0:=((Bx.new w 30 [.slice NA N cN,.slice PA np cp]).cell 0).trans rfl
 have a1:=((Bx.new w 30 [.slice NA N cN,.slice PA np cp]).cell 1).trans rfl
 have hh:=ghas_any (w.alloc (.cells #[.slice NA N cN,.slice PA np cp] 30)) NA PA N cN np cp z
 rw[decide_eq_false hz]at hh
 have HH:=hid hh
 clear hh hz
 go_enter Tryz.func27,Tryz.ntmps27
 go_wp2_with (go_at_call 63;refine HH.out.mono ?_;rintro e w1 ⟨rfl,hb1⟩)
 go_ret
 exact⟨none,0,rfl,λh=>absurd h (by decide),bt HB.out hb1⟩
end Go.Proofs.YtedkgofehbecmaaGreatDoor
