/- PROVED here: parts TyTrRrC TyTrRrD of the claim. No condition but those in each theorem's own head. -/
import Derived.Test.YtignojhijmamhaaGreatJ38
namespace Go.Proofs.YtignojhijmamhaaGreat.Ty.Tr
open Go Go.RowKit
theorem len2:∀ {l:List Int},2=l.length→∃x y,l=[x,y]
 | [x,y],_=>⟨x,y,rfl⟩
theorem len3:∀ {l:List Int},3=l.length→∃x y z,l=[x,y,z]
 | [x,y,z],_=>⟨x,y,z,rfl⟩
set_option maxRecDepth 100000 in
set_option maxHeartbeats 1500000 in
theorem kid_1 (K:Option Addr)(n c:Nat)(l:List Int)(w:World)(hI:Ints w K l)(hn:n=l.length)(hl:n≤4000):Calls Tryz.prog 101 #[.int .i64 1,.slice K n c] w (BPost (kidB 1 l) w):=by
 have HC:=Lib.hid (fun w' (h:Ints w' K l)=>rises_any K n c l 2 3 0 w' h hn hl)
 have HI:=Lib.hid hI
 clear hI hn
 have HE:=Lib.hid (show kidB 1 l=risB l 2 3 0 by unfold kidB;simp)
 generalize risB l 2 3 0=v at *
 go_enter Tryz.func101,Tryz.ntmps101
 go_wp2_with (go_at_call 117;refine(HC.out w HI.out).mono ?_;rintro e w1 ⟨rfl,hb1⟩)
 go_ret
 exact⟨ret_bool HE.out.symm,hb1⟩
set_option maxRecDepth 100000 in
set_option maxHeartbeats 1500000 in
theorem kid_3 (K:Option Addr)(n c:Nat)(l:List Int)(w:World)(hI:Ints w K l)(hn:n=l.length)(hl:n≤4000):Calls Tryz.prog 101 #[.int .i64 3,.slice K n c] w (BPost (kidB 3 l) w):=by
 have HC:=Lib.hid (fun w' (h:Ints w' K l)=>rises_any K n c l 4 5 6 w' h hn hl)
 have HI:=Lib.hid hI
 clear hI hn
 have HE:=Lib.hid (show kidB 3 l=risB l 4 5 6 by unfold kidB;simp)
 generalize risB l 4 5 6=v at *
 go_enter Tryz.func101,Tryz.ntmps101
 go_wp2_with (go_at_call 117;refine(HC.out w HI.out).mono ?_;rintro e w1 ⟨rfl,hb1⟩)
 go_ret
 exact⟨ret_bool HE.out.symm,hb1⟩
set_option maxRecDepth 100000 in
set_option maxHeartbeats 1500000 in
theorem kid_7 (K:Option Addr)(n c:Nat)(l:List Int)(w:World)(hI:Ints w K l)(hn:n=l.length)(hl:n≤4000):Calls Tryz.prog 101 #[.int .i64 7,.slice K n c] w (BPost (kidB 7 l) w):=by
 by_cases h1:n=1
 ·have HC:=Lib.hid (fun w' (h:Ints w' K l)=>all_any K n c l w' h hn hl)
  have HI:=Lib.hid hI
  have HE:=Lib.hid (show kidB 7 l=allB l by unfold kidB;simp[← hn,h1])
  clear hI hn
  subst h1
  generalize allB l=v at *
  go_enter Tryz.func101,Tryz.ntmps101
  go_wp2_with (go_at_call 119;refine(HC.out w HI.out).mono ?_;rintro e w1 ⟨rfl,hb1⟩)
  go_ret
  exact⟨ret_bool HE.out.symm,hb1⟩
 ·have HE:=Lib.hid (show kidB 7 l=false by unfold kidB;simp[← hn,h1])
  have q1:((n:Int)==1)=false:=by simp;omega
  clear hI hn
  go_enter Tryz.func101,Tryz.ntmps101
  go_wp2
  go_ret
  exact⟨ret_bool HE.out.symm,Below.refl _ _⟩
set_option maxRecDepth 100000 in
set_option maxHeartbeats 1500000 in
theorem kid_15 (K:Option Addr)(n c:Nat)(l:List Int)(w:World)(hI:Ints w K l)(hn:n=l.length)(hl:n≤4000):Calls Tryz.prog 101 #[.int .i64 15,.slice K n c] w (BPost (kidB 15 l) w):=by
 by_cases h1:n=1
 ·have HC:=Lib.hid (fun w' (h:Ints w' K l)=>all_any K n c l w' h hn hl)
  have HI:=Lib.hid hI
  have HE:=Lib.hid (show kidB 15 l=allB l by unfold kidB;simp[← hn,h1])
  clear hI hn
  subst h1
  generalize allB l=v at *
  go_enter Tryz.func101,Tryz.ntmps101
  go_wp2_with (go_at_call 119;refine(HC.out w HI.out).mono ?_;rintro e w1 ⟨rfl,hb1⟩)
  go_ret
  exact⟨ret_bool HE.out.symm,hb1⟩
 ·have HE:=Lib.hid (show kidB 15 l=false by unfold kidB;simp[← hn,h1])
  have q1:((n:Int)==1)=false:=by simp;omega
  clear hI hn
  go_enter Tryz.func101,Tryz.ntmps101
  go_wp2
  go_ret
  exact⟨ret_bool HE.out.symm,Below.refl _ _⟩
set_option maxRecDepth 100000 in
set_option maxHeartbeats 1500000 in
theorem kid_17 (K:Option Addr)(n c:Nat)(l:List Int)(w:World)(hI:Ints w K l)(hn:n=l.length)(hl:n≤4000):Calls Tryz.prog 101 #[.int .i64 17,.slice K n c] w (BPost (kidB 17 l) w):=by
 by_cases h1:n=1
 ·have HC:=Lib.hid (fun w' (h:Ints w' K l)=>all_any K n c l w' h hn hl)
  have HI:=Lib.hid hI
  have HE:=Lib.hid (show kidB 17 l=allB l by unfold kidB;simp[← hn,h1])
  clear hI hn
  subst h1
  generalize allB l=v at *
  go_enter Tryz.func101,Tryz.ntmps101
  go_wp2_with (go_at_call 119;refine(HC.out w HI.out).mono ?_;rintro e w1 ⟨rfl,hb1⟩)
  go_ret
  exact⟨ret_bool HE.out.symm,hb1⟩
 ·have HE:=Lib.hid (show kidB 17 l=false by unfold kidB;simp[← hn,h1])
  have q1:((n:Int)==1)=false:=by simp;omega
  clear hI hn
  go_enter Tryz.func101,Tryz.ntmps101
  go_wp2
  go_ret
  exact⟨ret_bool HE.out.symm,Below.refl _ _⟩
set_option maxRecDepth 100000 in
set_option maxHeartbeats 1500000 in
theorem kid_23 (K:Option Addr)(n c:Nat)(l:List Int)(w:World)(hI:Ints w K l)(hn:n=l.length)(hl:n≤4000):Calls Tryz.prog 101 #[.int .i64 23,.slice K n c] w (BPost (kidB 23 l) w):=by
 by_cases h1:n=1
 ·have HC:=Lib.hid (fun w' (h:Ints w' K l)=>all_any K n c l w' h hn hl)
  have HI:=Lib.hid hI
  have HE:=Lib.hid (show kidB 23 l=allB l by unfold kidB;simp[← hn,h1])
  clear hI hn
  subst h1
  generalize allB l=v at *
  go_enter Tryz.func101,Tryz.ntmps101
  go_wp2_with (go_at_call 119;refine(HC.out w HI.out).mono ?_;rintro e w1 ⟨rfl,hb1⟩)
  go_ret
  exact⟨ret_bool HE.out.symm,hb1⟩
 ·have HE:=Lib.hid (show kidB 23 l=false by unfold kidB;simp[← hn,h1])
  have q1:((n:Int)==1)=false:=by simp;omega
  clear hI hn
  go_enter Tryz.func101,Tryz.ntmps101
  go_wp2
  go_ret
  exact⟨ret_bool HE.out.symm,Below.refl _ _⟩
set_option maxRecDepth 100000 in
set_option maxHeartbeats 1500000 in
theorem kid_26 (K:Option Addr)(n c:Nat)(l:List Int)(w:World)(hI:Ints w K l)(hn:n=l.length)(hl:n≤4000):Calls Tryz.prog 101 #[.int .i64 26,.slice K n c] w (BPost (kidB 26 l) w):=by
 by_cases h1:n=1
 ·have HC:=Lib.hid (fun w' (h:Ints w' K l)=>all_any K n c l w' h hn hl)
  have HI:=Lib.hid hI
  have HE:=Lib.hid (show kidB 26 l=allB l by unfold kidB;simp[← hn,h1])
  clear hI hn
  subst h1
  generalize allB l=v at *
  go_enter Tryz.func101,Tryz.ntmps101
  go_wp2_with (go_at_call 119;refine(HC.out w HI.out).mono ?_;rintro e w1 ⟨rfl,hb1⟩)
  go_ret
  exact⟨ret_bool HE.out.symm,hb1⟩
 ·have HE:=Lib.hid (show kidB 26 l=false by unfold kidB;simp[← hn,h1])
  have q1:((n:Int)==1)=false:=by simp;omega
  clear hI hn
  go_enter Tryz.func101,Tryz.ntmps101
  go_wp2
  go_ret
  exact⟨ret_bool HE.out.symm,Below.refl _ _⟩
set_option maxRecDepth 100000 in
set_option maxHeartbeats 1500000 in
theorem kid_8 (K:Option Addr)(n c:Nat)(l:List Int)(w:World)(hI:Ints w K l)(hn:n=l.length)(hl:n≤4000):Calls Tryz.prog 101 #[.int .i64 8,.slice K n c] w (BPost (kidB 8 l) w):=by
 by_cases h1:n=2
 ·have HC:=Lib.hid (fun w' (h:Ints w' K l)=>all_any K n c l w' h hn hl)
  have HI:=Lib.hid hI
  have HE:=Lib.hid (show kidB 8 l=allB l by unfold kidB;simp[← hn,h1])
  clear hI hn
  subst h1
  generalize allB l=v at *
  go_enter Tryz.func101,Tryz.ntmps101
  go_wp2_with (go_at_call 119;refine(HC.out w HI.out).mono ?_;rintro e w1 ⟨rfl,hb1⟩)
  go_ret
  exact⟨ret_bool HE.out.symm,hb1⟩
 ·have HE:=Lib.hid (show kidB 8 l=false by unfold kidB;simp[← hn,h1])
  have q1:((n:Int)==2)=false:=by simp;omega
  clear hI hn
  go_enter Tryz.func101,Tryz.ntmps101
  go_wp2
  go_ret
  exact⟨ret_bool HE.out.symm,Below.refl _ _⟩
set_option maxRecDepth 100000 in
set_option maxHeartbeats 1500000 in
theorem kid_27 (K:Option Addr)(n c:Nat)(l:List Int)(w:World)(hI:Ints w K l)(hn:n=l.length)(hl:n≤4000):Calls Tryz.prog 101 #[.int .i64 27,.slice K n c] w (BPost (kidB 27 l) w):=by
 by_cases h1:n=2
 ·have HC:=Lib.hid (fun w' (h:Ints w' K l)=>all_any K n c l w' h hn hl)
  have HI:=Lib.hid hI
  have HE:=Lib.hid (show kidB 27 l=allB l by unfold kidB;simp[← hn,h1])
  clear hI hn
  subst h1
  generalize allB l=v at *
  go_enter Tryz.func101,Tryz.ntmps101
  go_wp2_with (go_at_call 119;refine(HC.out w HI.out).mono ?_;rintro e w1 ⟨rfl,hb1⟩)
  go_ret
  exact⟨ret_bool HE.out.symm,hb1⟩
 ·have HE:=Lib.hid (show kidB 27 l=false by unfold kidB;simp[← hn,h1])
  have q1:((n:Int)==2)=false:=by simp;omega
  clear hI hn
  go_enter Tryz.func101,Tryz.ntmps101
  go_wp2
  go_ret
  exact⟨ret_bool HE.out.symm,Below.refl _ _⟩
set_option maxRecDepth 100000 in
set_option maxHeartbeats 1500000 in
theorem kid_14 (K:Option Addr)(n c:Nat)(l:List Int)(w:World)(hI:Ints w K l)(hn:n=l.length)(hl:n≤4000):Calls Tryz.prog 101 #[.int .i64 14,.slice K n c] w (BPost (kidB 14 l) w):=by
 by_cases h1:n≤1
 ·have HC:=Lib.hid (fun w' (h:Ints w' K l)=>all_any K n c l w' h hn hl)
  have HI:=Lib.hid hI
  have HE:=Lib.hid (show kidB 14 l=allB l by unfold kidB;simp[← hn,h1])
  have q1:(n:Int)≤1:=by omega
  clear hI hn
  generalize allB l=v at *
  go_enter Tryz.func101,Tryz.ntmps101
  go_wp2_with (go_at_call 119;refine(HC.out w HI.out).mono ?_;rintro e w1 ⟨rfl,hb1⟩)
  go_ret
  exact⟨ret_bool HE.out.symm,hb1⟩
 ·have HE:=Lib.hid (show kidB 14 l=false by unfold kidB;simp[← hn,h1])
  have q1:¬(n:Int)≤1:=by omega
  clear hI hn
  go_enter Tryz.func101,Tryz.ntmps101
  go_wp2
  go_ret
  exact⟨ret_bool HE.out.symm,Below.refl _ _⟩
set_option maxRecDepth 100000 in
set_option maxHeartbeats 1500000 in
theorem kid_9 (K:Option Addr)(n c:Nat)(l:List Int)(w:World)(hI:Ints w K l)(hn:n=l.length)(hl:n≤4000):Calls Tryz.prog 101 #[.int .i64 9,.slice K n c] w (BPost (kidB 9 l) w):=by
 by_cases h1:n=1
 ·subst h1
  obtain⟨x,rfl⟩:∃x,l=[x]:=by
   exact List.length_eq_one_iff.1 hn.symm
  obtain⟨bK,oK,rfl,hbK,hcK⟩:=hI (by show 0<1;omega)
  have c0:=hcK 0 (by show 0<1;omega)
  simp only[List.getElem_cons_zero,Nat.add_zero]at c0
  clear hcK hn
  by_cases g0:x=18
  ·subst g0
   have HE:=Lib.hid (show kidB 9 [18]=true by unfold kidB;simp)
   go_enter Tryz.func101,Tryz.ntmps101
   go_wp2
   go_ret
   exact⟨ret_bool HE.out.symm,Below.refl _ _⟩
  ·have q0:(x==18)=false:=by simpa using g0
   have HE:=Lib.hid (show kidB 9 [x]=false by unfold kidB;simp[g0])
   go_enter Tryz.func101,Tryz.ntmps101
   go_wp2
   go_ret
   exact⟨ret_bool HE.out.symm,Below.refl _ _⟩
 ·have HE:=Lib.hid (show kidB 9 l=false by unfold kidB;simp[← hn,h1])
  have q1:((n:Int)==1)=false:=by simp;omega
  clear hI hn
  go_enter Tryz.func101,Tryz.ntmps101
  go_wp2
  go_ret
  exact⟨ret_bool HE.out.symm,Below.refl _ _⟩
set_option maxRecDepth 100000 in
set_option maxHeartbeats 1500000 in
theorem kid_10 (K:Option Addr)(n c:Nat)(l:List Int)(w:World)(hI:Ints w K l)(hn:n=l.length)(hl:n≤4000):Calls Tryz.prog 101 #[.int .i64 10,.slice K n c] w (BPost (kidB 10 l) w):=by
 by_cases h1:n=2
 ·subst h1
  obtain⟨x,y,rfl⟩:∃x y,l=[x,y]:=by
   exact len2 hn
  obtain⟨bK,oK,rfl,hbK,hcK⟩:=hI (by show 0<2;omega)
  have c0:=hcK 0 (by show 0<2;omega)
  have c1:=hcK 1 (by show 1<2;omega)
  simp only[List.getElem_cons_zero,List.getElem_cons_succ,Nat.add_zero]at c0 c1
  clear hcK hn
  by_cases g0:x=18
  ·subst g0
   cases he1:expB y with
   |true=>
    have HC1:=Lib.hid (fun w'=>expression_any y w')
    rw[he1]at HC1
    go_enter Tryz.func101,Tryz.ntmps101
    go_wp2_with (go_at_call 120;refine(HC1.out _).mono ?_)
    rintro e w1 ⟨rfl,hb1⟩
    have HE:=Lib.hid (show kidB 10 [18,y]=true by unfold kidB;simp[he1])
    clear he1
    go_wp2
    go_ret
    exact⟨ret_bool HE.out.symm,hb1⟩
   |false=>
    have HC1:=Lib.hid (fun w'=>expression_any y w')
    rw[he1]at HC1
    go_enter Tryz.func101,Tryz.ntmps101
    go_wp2_with (go_at_call 120;refine(HC1.out _).mono ?_)
    rintro e w1 ⟨rfl,hb1⟩
    have HE:=Lib.hid (show kidB 10 [18,y]=false by unfold kidB;simp[he1])
    clear he1
    go_wp2
    go_ret
    exact⟨ret_bool HE.out.symm,hb1⟩
  ·have q0:(x==18)=false:=by simpa using g0
   have HE:=Lib.hid (show kidB 10 [x,y]=false by unfold kidB;simp[g0])
   go_enter Tryz.func101,Tryz.ntmps101
   go_wp2
   go_ret
   exact⟨ret_bool HE.out.symm,Below.refl _ _⟩
 ·have HE:=Lib.hid (show kidB 10 l=false by unfold kidB;simp[← hn,h1])
  have q1:((n:Int)==2)=false:=by simp;omega
  clear hI hn
  go_enter Tryz.func101,Tryz.ntmps101
  go_wp2
  go_ret
  exact⟨ret_bool HE.out.symm,Below.refl _ _⟩
set_option maxRecDepth 100000 in
set_option maxHeartbeats 1500000 in
theorem kid_11 (K:Option Addr)(n c:Nat)(l:List Int)(w:World)(hI:Ints w K l)(hn:n=l.length)(hl:n≤4000):Calls Tryz.prog 101 #[.int .i64 11,.slice K n c] w (BPost (kidB 11 l) w):=by
 by_cases h1:n=3
 ·subst h1
  obtain⟨x,y,z,rfl⟩:∃x y z,l=[x,y,z]:=by
   exact len3 hn
  obtain⟨bK,oK,rfl,hbK,hcK⟩:=hI (by show 0<3;omega)
  have c0:=hcK 0 (by show 0<3;omega)
  have c1:=hcK 1 (by show 1<3;omega)
  have c2:=hcK 2 (by show 2<3;omega)
  simp only[List.getElem_cons_zero,List.getElem_cons_succ,Nat.add_zero]at c0 c1 c2
  clear hcK hn
  cases he0:expB x with
  |true=>
   have HC0:=Lib.hid (fun w'=>expression_any x w')
   rw[he0]at HC0
   go_enter Tryz.func101,Tryz.ntmps101
   go_wp2_with (go_at_call 120;refine(HC0.out _).mono ?_)
   rintro e w1 ⟨rfl,hb1⟩
   have c1:=(hb1.cell (p:=⟨bK,oK+1,none⟩) (by first|exact hbK |(have:=hb1.size;omega))).trans c1
   have c2:=(hb1.cell (p:=⟨bK,oK+2,none⟩) (by first|exact hbK |(have:=hb1.size;omega))).trans c2
   by_cases g1:y=6
   ·subst g1
    by_cases g2:z=6
    ·subst g2
     have HE:=Lib.hid (show kidB 11 [x,6,6]=true by unfold kidB;simp[he0])
     clear he0
     go_wp2
     go_ret
     exact⟨ret_bool HE.out.symm,hb1⟩
    ·have q2:(z==6)=false:=by simpa using g2
     have HE:=Lib.hid (show kidB 11 [x,6,z]=false by unfold kidB;simp[he0,g2])
     clear he0
     go_wp2
     go_ret
     exact⟨ret_bool HE.out.symm,hb1⟩
   ·have q1:(y==6)=false:=by simpa using g1
    have HE:=Lib.hid (show kidB 11 [x,y,z]=false by unfold kidB;simp[he0,g1])
    clear he0
    go_wp2
    go_ret
    exact⟨ret_bool HE.out.symm,hb1⟩
  |false=>
   have HC0:=Lib.hid (fun w'=>expression_any x w')
   rw[he0]at HC0
   go_enter Tryz.func101,Tryz.ntmps101
   go_wp2_with (go_at_call 120;refine(HC0.out _).mono ?_)
   rintro e w1 ⟨rfl,hb1⟩
   have c1:=(hb1.cell (p:=⟨bK,oK+1,none⟩) (by first|exact hbK |(have:=hb1.size;omega))).trans c1
   have c2:=(hb1.cell (p:=⟨bK,oK+2,none⟩) (by first|exact hbK |(have:=hb1.size;omega))).trans c2
   have HE:=Lib.hid (show kidB 11 [x,y,z]=false by unfold kidB;simp[he0])
   clear he0
   go_wp2
   go_ret
   exact⟨ret_bool HE.out.symm,hb1⟩
 ·have HE:=Lib.hid (show kidB 11 l=false by unfold kidB;simp[← hn,h1])
  have q1:((n:Int)==3)=false:=by simp;omega
  clear hI hn
  go_enter Tryz.func101,Tryz.ntmps101
  go_wp2
  go_ret
  exact⟨ret_bool HE.out.symm,Below.refl _ _⟩
set_option maxRecDepth 100000 in
set_option maxHeartbeats 1500000 in
theorem kid_12 (K:Option Addr)(n c:Nat)(l:List Int)(w:World)(hI:Ints w K l)(hn:n=l.length)(hl:n≤4000):Calls Tryz.prog 101 #[.int .i64 12,.slice K n c] w (BPost (kidB 12 l) w):=by
 by_cases h1:n=2
 ·subst h1
  obtain⟨x,y,rfl⟩:∃x y,l=[x,y]:=by
   exact len2 hn
  obtain⟨bK,oK,rfl,hbK,hcK⟩:=hI (by show 0<2;omega)
  have c0:=hcK 0 (by show 0<2;omega)
  have c1:=hcK 1 (by show 1<2;omega)
  simp only[List.getElem_cons_zero,List.getElem_cons_succ,Nat.add_zero]at c0 c1
  clear hcK hn
  cases he0:expB x with
  |true=>
   have HC0:=Lib.hid (fun w'=>expression_any x w')
   rw[he0]at HC0
   go_enter Tryz.func101,Tryz.ntmps101
   go_wp2_with (go_at_call 120;refine(HC0.out _).mono ?_)
   rintro e w1 ⟨rfl,hb1⟩
   have c1:=(hb1.cell (p:=⟨bK,oK+1,none⟩) (by first|exact hbK |(have:=hb1.size;omega))).trans c1
   by_cases g1:y=6
   ·subst g1
    have HE:=Lib.hid (show kidB 12 [x,6]=true by unfold kidB;simp[he0])
    clear he0
    go_wp2
    go_ret
    exact⟨ret_bool HE.out.symm,hb1⟩
   ·have q1:(y==6)=false:=by simpa using g1
    have HE:=Lib.hid (show kidB 12 [x,y]=false by unfold kidB;simp[he0,g1])
    clear he0
    go_wp2
    go_ret
    exact⟨ret_bool HE.out.symm,hb1⟩
  |false=>
   have HC0:=Lib.hid (fun w'=>expression_any x w')
   rw[he0]at HC0
   go_enter Tryz.func101,Tryz.ntmps101
   go_wp2_with (go_at_call 120;refine(HC0.out _).mono ?_)
   rintro e w1 ⟨rfl,hb1⟩
   have c1:=(hb1.cell (p:=⟨bK,oK+1,none⟩) (by first|exact hbK |(have:=hb1.size;omega))).trans c1
   have HE:=Lib.hid (show kidB 12 [x,y]=false by unfold kidB;simp[he0])
   clear he0
   go_wp2
   go_ret
   exact⟨ret_bool HE.out.symm,hb1⟩
 ·have HE:=Lib.hid (show kidB 12 l=false by unfold kidB;simp[← hn,h1])
  have q1:((n:Int)==2)=false:=by simp;omega
  clear hI hn
  go_enter Tryz.func101,Tryz.ntmps101
  go_wp2
  go_ret
  exact⟨ret_bool HE.out.symm,Below.refl _ _⟩
set_option maxRecDepth 100000 in
set_option maxHeartbeats 1500000 in
theorem kid_16 (K:Option Addr)(n c:Nat)(l:List Int)(w:World)(hI:Ints w K l)(hn:n=l.length)(hl:n≤4000):Calls Tryz.prog 101 #[.int .i64 16,.slice K n c] w (BPost (kidB 16 l) w):=by
 by_cases h1:n=2
 ·subst h1
  obtain⟨x,y,rfl⟩:∃x y,l=[x,y]:=by
   exact len2 hn
  obtain⟨bK,oK,rfl,hbK,hcK⟩:=hI (by show 0<2;omega)
  have c0:=hcK 0 (by show 0<2;omega)
  have c1:=hcK 1 (by show 1<2;omega)
  simp only[List.getElem_cons_zero,List.getElem_cons_succ,Nat.add_zero]at c0 c1
  clear hcK hn
  by_cases g0:x=6
  ·subst g0
   by_cases g1:y=6
   ·subst g1
    have HE:=Lib.hid (show kidB 16 [6,6]=true by unfold kidB;simp)
    go_enter Tryz.func101,Tryz.ntmps101
    go_wp2
    go_ret
    exact⟨ret_bool HE.out.symm,Below.refl _ _⟩
   ·have q1:(y==6)=false:=by simpa using g1
    have HE:=Lib.hid (show kidB 16 [6,y]=false by unfold kidB;simp[g1])
    go_enter Tryz.func101,Tryz.ntmps101
    go_wp2
    go_ret
    exact⟨ret_bool HE.out.symm,Below.refl _ _⟩
  ·have q0:(x==6)=false:=by simpa using g0
   have HE:=Lib.hid (show kidB 16 [x,y]=false by unfold kidB;simp[g0])
   go_enter Tryz.func101,Tryz.ntmps101
   go_wp2
   go_ret
   exact⟨ret_bool HE.out.symm,Below.refl _ _⟩
 ·have HE:=Lib.hid (show kidB 16 l=false by unfold kidB;simp[← hn,h1])
  have q1:((n:Int)==2)=false:=by simp;omega
  clear hI hn
  go_enter Tryz.func101,Tryz.ntmps101
  go_wp2
  go_ret
  exact⟨ret_bool HE.out.symm,Below.refl _ _⟩
end Go.Proofs.YtignojhijmamhaaGreat.Ty.Tr
namespace Go.Proofs.YtignojhijmamhaaGreat.Ty.Tr
open Go Go.RowKit
theorem slice22 (b off n c:Nat)(h1:1≤n)(h2:n≤c)(w:World):∃A,(Instr.slice 64 (.slice (some ⟨b,off,none⟩) n c) (some (.int .i64 1)) none none).run Tryz.prog w = .ok (.slice A (n-1) (c-1)) w∧(1<n→A=some ⟨b,off+1,none⟩):=by
 by_cases h3:c=1
 ·obtain rfl:n=1:=by omega
  subst h3
  exact⟨some ⟨b,off,none⟩,by simp[go_sem,Tryz.underlying64],fun h=>by omega⟩
 ·refine⟨some ⟨b,off+1,none⟩,?_,fun _=>rfl⟩
  simp[go_sem,Tryz.underlying64]
  rw[if_pos (by omega),if_neg (by omega)]
set_option maxRecDepth 100000 in
set_option maxHeartbeats 1500000 in
theorem kid_6 (K:Option Addr)(n c:Nat)(l:List Int)(w:World)(hI:Ints w K l)(hn:n=l.length)(hl:n≤4000):Calls Tryz.prog 101 #[.int .i64 6,.slice K n c] w (BPost (kidB 6 l) w):=by
 rw[show kidB 6 l=l.all stmB by unfold kidB;simp]
 have HI:=Lib.hid hI
 have HL:=Lib.hid hn
 clear hI hn
 go_enter Tryz.func101,Tryz.ntmps101
 go_wp2
 go_loopw [5] (fun i wr=>∃j:Nat,j≤n∧i = .int .i64 (j:Int)∧(l.take j).all stmB=true∧Below w.heap.size w wr) (fun i _=>n-(intOf i).toNat)
 case atStart=>exact⟨0,Nat.zero_le _,rfl,rfl,Below.refl _ _⟩
 case round=>
  obtain⟨j,hj,rfl,hall,hbw⟩:=hrel
  have HA:=Lib.hid hall
  clear hall
  by_cases hjl:j<n
  ·have hjz:(j:Int)<(n:Int):=by omega
   have hjl2:j<l.length:=by rw[← HL.out];exact hjl
   obtain⟨bK,oK,rfl,hbK,hcK⟩:=HI.out (by omega)
   have hck:=(hbw.cell (p:=⟨bK,oK+j,none⟩) hbK).trans (hcK j hjl2)
   have HTJ:=Lib.hid (show l.take (j+1)=l.take j++[l[j]]from List.take_succ_eq_append_getElem hjl2)
   have HMM:=Lib.hid (List.getElem_mem hjl2)
   clear hcK
   generalize l[j]=kk at *
   cases he:stmB kk with
   |true=>
    have HC:=Lib.hid (statement_any kk wr)
    rw[he]at HC
    have HE:=Lib.hid he
    clear he
    go_wp2_with (go_at_call 118;refine HC.out.mono ?_;rintro e w1 ⟨rfl,hb1⟩)
    go_roundw
    case rel=>
     refine⟨j+1,by omega,by go_num,?_,bt hbw hb1⟩
     rw[HTJ.out,List.all_append,HA.out]
     simp[HE.out]
    case measure=>simp[intOf];omega
   |false=>
    have HC:=Lib.hid (statement_any kk wr)
    rw[he]at HC
    have HE:=Lib.hid (show l.all stmB=false by
     rw[List.all_eq_false]
     exact⟨kk,HMM.out,by simp[he]⟩)
    clear he
    go_wp2_with (go_at_call 118;refine HC.out.mono ?_;rintro e w1 ⟨rfl,hb1⟩)
    go_ret
    exact⟨ret_bool HE.out.symm,bt hbw hb1⟩
  ·obtain rfl:j=n:=by omega
   have hjz:¬(j:Int)<(j:Int):=by omega
   have HE:=Lib.hid (show l.all stmB=true by have:=HA.out;rw[HL.out,List.take_length]at this;exact this)
   go_wp2
   go_ret
   exact⟨ret_bool HE.out.symm,hbw⟩
set_option maxRecDepth 100000 in
set_option maxHeartbeats 1500000 in
theorem kid_13 (K:Option Addr)(n c:Nat)(l:List Int)(w:World)(hI:Ints w K l)(hn:n=l.length)(hl:n≤4000)(hc:n≤c):Calls Tryz.prog 101 #[.int .i64 13,.slice K n c] w (BPost (kidB 13 l) w):=by
 by_cases h1:1≤n
 ·have hz:(1:Int)≤(n:Int):=by omega
  obtain⟨x,r,rfl⟩:∃x r,l=x :: r:=by
   cases l with
   |nil=>rw[List.length_nil]at hn;omega
   |cons x r=>exact⟨x,r,rfl⟩
  obtain⟨bK,oK,rfl,hbK,hcK⟩:=hI (by rw[← hn];omega)
  have c0:=hcK 0 (by rw[← hn];omega)
  simp only[List.getElem_cons_zero,Nat.add_zero]at c0
  rw[List.length_cons]at hn
  by_cases g:x=19
  ·subst g
   have HE:=Lib.hid (show kidB 13 (19 :: r)=allB r by unfold kidB;simp)
   obtain⟨A,hsl,hA⟩:=slice22 bK oK n c h1 hc w
   have HS:=Lib.hid (all_any A (n-1) (c-1) r w (fun h0=>by
    rw[hA (by omega)]
    refine⟨bK,oK+1,rfl,hbK,fun j hj =>?_⟩
    have:=hcK (j+1) (by rw[List.length_cons];omega)
    rw[List.getElem_cons_succ]at this
    rw[← this,show oK+1+j=oK+(j+1)by omega]) (by omega) (by omega))
   generalize allB r=v at *
   clear hcK hI hn hA
   go_enter Tryz.func101,Tryz.ntmps101
   go_wp2_with (go_at_call 119;refine HS.out.mono ?_;rintro e w1 ⟨rfl,hb1⟩)
   go_ret
   exact⟨ret_bool HE.out.symm,hb1⟩
  ·have HE:=Lib.hid (show kidB 13 (x :: r)=false by unfold kidB;simp[g])
   have q2:(x==19)=false:=by simpa using g
   clear hcK hI hn
   go_enter Tryz.func101,Tryz.ntmps101
   go_wp2
   go_ret
   exact⟨ret_bool HE.out.symm,Below.refl _ _⟩
 ·have HE:=Lib.hid (show kidB 13 l=false by unfold kidB;simp[← hn];omega)
  have hz:¬(1:Int)≤(n:Int):=by omega
  clear hI hn
  go_enter Tryz.func101,Tryz.ntmps101
  go_wp2
  go_ret
  exact⟨ret_bool HE.out.symm,Below.refl _ _⟩
set_option maxRecDepth 100000 in
set_option maxHeartbeats 1500000 in
theorem kid_no (kd:Int)(K:Option Addr)(n c:Nat)(l:List Int)(w:World)(hn:n=l.length)(g1:¬kd=1)(g3:¬kd=3)(g6:¬kd=6)(g7:¬kd=7)(g15:¬kd=15)(g17:¬kd=17)(g23:¬kd=23)(g26:¬kd=26)(g8:¬kd=8)(g27:¬kd=27)(g9:¬kd=9)(g10:¬kd=10)(g11:¬kd=11)(g12:¬kd=12)(g13:¬kd=13)(g14:¬kd=14)(g16:¬kd=16):Calls Tryz.prog 101 #[.int .i64 kd,.slice K n c] w (BPost (kidB kd l) w):=by
 have k1:(kd==1)=false:=by simp[g1]
 have k3:(kd==3)=false:=by simp[g3]
 have k6:(kd==6)=false:=by simp[g6]
 have k7:(kd==7)=false:=by simp[g7]
 have k15:(kd==15)=false:=by simp[g15]
 have k17:(kd==17)=false:=by simp[g17]
 have k23:(kd==23)=false:=by simp[g23]
 have k26:(kd==26)=false:=by simp[g26]
 have k8:(kd==8)=false:=by simp[g8]
 have k27:(kd==27)=false:=by simp[g27]
 have k9:(kd==9)=false:=by simp[g9]
 have k10:(kd==10)=false:=by simp[g10]
 have k11:(kd==11)=false:=by simp[g11]
 have k12:(kd==12)=false:=by simp[g12]
 have k13:(kd==13)=false:=by simp[g13]
 have k14:(kd==14)=false:=by simp[g14]
 have k16:(kd==16)=false:=by simp[g16]
 by_cases h1:n=0
 ·have HE:=Lib.hid (show kidB kd l=true by unfold kidB;simp[← hn,h1,g1,g3,g6,g7,g15,g17,g23,g26,g8,g27,g9,g10,g11,g12,g13,g14,g16])
  clear hn
  subst h1
  go_enter Tryz.func101,Tryz.ntmps101
  go_wp2
  go_ret
  exact⟨ret_bool HE.out.symm,Below.refl _ _⟩
 ·have HE:=Lib.hid (show kidB kd l=false by unfold kidB;simp[← hn,h1,g1,g3,g6,g7,g15,g17,g23,g26,g8,g27,g9,g10,g11,g12,g13,g14,g16])
  have q1:((n:Int)==0)=false:=by simp;omega
  clear hn
  go_enter Tryz.func101,Tryz.ntmps101
  go_wp2
  go_ret
  exact⟨ret_bool HE.out.symm,Below.refl _ _⟩
theorem kids_any (kd:Int)(K:Option Addr)(n c:Nat)(l:List Int)(w:World)(hI:Ints w K l)(hn:n=l.length)(hl:n≤4000)(hc:n≤c):Calls Tryz.prog 101 #[.int .i64 kd,.slice K n c] w (BPost (kidB kd l) w):=by
 by_cases g1:kd=1
 ·subst g1;exact kid_1 K n c l w hI hn hl
 by_cases g3:kd=3
 ·subst g3;exact kid_3 K n c l w hI hn hl
 by_cases g6:kd=6
 ·subst g6;exact kid_6 K n c l w hI hn hl
 by_cases g7:kd=7
 ·subst g7;exact kid_7 K n c l w hI hn hl
 by_cases g15:kd=15
 ·subst g15;exact kid_15 K n c l w hI hn hl
 by_cases g17:kd=17
 ·subst g17;exact kid_17 K n c l w hI hn hl
 by_cases g23:kd=23
 ·subst g23;exact kid_23 K n c l w hI hn hl
 by_cases g26:kd=26
 ·subst g26;exact kid_26 K n c l w hI hn hl
 by_cases g8:kd=8
 ·subst g8;exact kid_8 K n c l w hI hn hl
 by_cases g27:kd=27
 ·subst g27;exact kid_27 K n c l w hI hn hl
 by_cases g9:kd=9
 ·subst g9;exact kid_9 K n c l w hI hn hl
 by_cases g10:kd=10
 ·subst g10;exact kid_10 K n c l w hI hn hl
 by_cases g11:kd=11
 ·subst g11;exact kid_11 K n c l w hI hn hl
 by_cases g12:kd=12
 ·subst g12;exact kid_12 K n c l w hI hn hl
 by_cases g13:kd=13
 ·subst g13;exact kid_13 K n c l w hI hn hl hc
 by_cases g14:kd=14
 ·subst g14;exact kid_14 K n c l w hI hn hl
 by_cases g16:kd=16
 ·subst g16;exact kid_16 K n c l w hI hn hl
 exact kid_no kd K n c l w hn g1 g3 g6 g7 g15 g17 g23 g26 g8 g27 g9 g10 g11 g12 g13 g14 g16
end Go.Proofs.YtignojhijmamhaaGreat.Ty.Tr
