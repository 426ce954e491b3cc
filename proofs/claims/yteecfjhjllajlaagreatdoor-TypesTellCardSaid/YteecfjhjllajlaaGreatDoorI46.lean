/- PROVED: Ei. No more condition. -/
import Derived.Test.YteecfjhjllajlaaGreatDoorI43
import Derived.Test.YteecfjhjllajlaaGreatDoorI45
import Derived.Deep.RegionHeld3
namespace Go.Proofs.YteecfjhjllajlaaGreatDoor
section
set_option maxHeartbeats 8000000
set_option maxRecDepth 100000
open Go Go.RowKit Go.Sort
open Tr (Bx heap1 bt Nds Ints VPost BPost rgB par par_yes par_root par_node paL kidsAt IsPost)
theorem typesTell_any (A:Option Addr)(c n:Nat)(l:List Tr.Nd)(r z:Int)(nm:ByteArray)(w:World)(hn:n=l.length)(hE:Tk.Errs w)(hN:Nds w A l)(hnum:∀x ∈ l,x.n≤9223372036854775807)(hc:Caps w A l):Calls Tryz.prog 10 #[.agg #[.slice A n c,.int .i64 r],.int .i64 z,.string nm] w (VPost (.bool true) w):=by
 have hb0:=heap1 w (.cells #[.slice A n c,.int .i64 r] 25)
 have HX:=Lib.hid (Bx.new w 25 [.slice A n c,.int .i64 r])
 have HB0:=Lib.hid hb0
 have HS:=Lib.hid (shown34_any _ (hE.below hb0))
 have HSM:=Lib.hid (show∀w',Below w.heap.size w w'→Calls Tryz.prog 35 #[.agg #[.slice A n c,.int .i64 r]] w' (SmPost7 l w')from λw' q=>small35t_any A n c l r w' (hN.below q) hn)
 have HTT:=Lib.hid (show OkT7 l→∀w',Below w.heap.size w w'→TT w' A n l from λh w' q=>(TT.mk hN hn (λx hx=>by have:=(h.2 x hx).1;omega) (λx hx=>by have:=(h.2 x hx).2;omega) hnum hc).below q)
 have HL:=Lib.hid hn
 clear hE hN hnum hc hb0 hn
 obtain⟨W0,hW0⟩:∃W0,w.alloc (.cells #[.slice A n c,.int .i64 r] 25)=W0:=⟨_,rfl⟩
 rw[hW0]at HX HB0 HS
 go_enter Tryz.func10,Tryz.ntmps10
 go_wp2_with (go_at_call 34;refine HS.out.mono ?_)
 rintro e w1 ⟨rfl,hb1⟩
 have HX1:=Lib.hid (HX.out.below hb1 HX.out.lt)
 have HB1:=Lib.hid (bt HB0.out hb1)
 have a0:=(HX1.out.cell 0).trans rfl
 have a1:=(HX1.out.cell 1).trans rfl
 clear hb1 hW0 HS HX HB0
 go_wp2_with (go_at_call 35;refine(HSM.out _ HB1.out).mono ?_)
 rintro e w2 ⟨hb2,bo,rfl,hok⟩
 have HB2:=Lib.hid (bt HB1.out hb2)
 cases bo with
 |false=>
  clear hb2 hok a0 a1
  go_wp2
  go_ret
  exact⟨rfl,HB2.out⟩
 |true=>
  have HOK:=Lib.hid (hok rfl)
  have HX2:=Lib.hid (HX1.out.below hb2 HX1.out.lt)
  clear hb2 hok a0 a1 HX1
  by_cases hl:(200:Int)<(nm.size:Int)
  ·have hld:decide ((200:Int)<(nm.size:Int))=true:=decide_eq_true hl
   go_wp2
   go_ret
   exact⟨rfl,HB2.out⟩
  ·have hld:decide ((200:Int)<(nm.size:Int))=false:=decide_eq_false hl
   have HNM:=Lib.hid (show nm.size≤281474976710656 by omega)
   have HN4:=Lib.hid (show n≤400 by have:=HOK.out.1;have:=HL.out;omega)
   have HC38:=Lib.hid (λW (q:Below w.heap.size w W)=>owner_any (HTT.out HOK.out W q) c r z)
   have HC39:=Lib.hid (λW (q:Below w.heap.size w W)=>rOwner_any (HTT.out HOK.out W q) c r z)
   have HC40:=Lib.hid (λW (q:Below w.heap.size w W)=>lookup_any (HTT.out HOK.out W q) c r z nm HNM.out)
   have HC41:=Lib.hid (λW (q:Below w.heap.size w W)=>rLookup_any (HTT.out HOK.out W q) c r z nm)
   have HC42:=Lib.hid (λW (q:Below w.heap.size w W)=>procT_any (HTT.out HOK.out W q) c r nm HNM.out)
   have HC43:=Lib.hid (λW (q:Below w.heap.size w W)=>rProc_any (HTT.out HOK.out W q) c r nm)
   have HC44:=Lib.hid (λW (q:Below w.heap.size w W)=>plain_any (HTT.out HOK.out W q) c r z)
   have HC45:=Lib.hid (λW (q:Below w.heap.size w W)=>rPlain_any (HTT.out HOK.out W q) c r z)
   have HC46:=Lib.hid (λW (q:Below w.heap.size w W)=>type_any (HTT.out HOK.out W q) c r z)
   have HC47:=Lib.hid (λW (q:Below w.heap.size w W)=>rType_any (HTT.out HOK.out W q) c r z)
   have HC48:=Lib.hid (λW (q:Below w.heap.size w W)=>main_any (HTT.out HOK.out W q) c r)
   have HC49:=Lib.hid (λW (q:Below w.heap.size w W)=>rMain_any (HTT.out HOK.out W q) c r)
   have HC51:=Lib.hid (λW (q:Below w.heap.size w W)=>channels_any (HTT.out HOK.out W q) c r)
   have HC52:=Lib.hid (λW (q:Below w.heap.size w W)=>rChannels_any (HTT.out HOK.out W q) HN4.out c r)
   generalize owT l r z=ow at *
   generalize lkT l r z nm=lk at *
   generalize pcT l r nm=pc at *
   generalize plT l r z=pb at *
   generalize tpT l r z=tp at *
   generalize pcT l r ⟨#[109,97,105,110]⟩=mn at *
   have HCL:=Lib.hid (show(chL (eff l r)).length≤4000 from by
    have h1:=chl_len (eff l r)
    have h2:=chn_len (eff l r)
    have h3:(eff l r).length≤l.length:=by
     cases hr:rgB l r with
     |false=>rw[eff_no hr];simp
     |true=>rw[eff_yes hr];exact Nat.le_refl _
    have:=HL.out;have:=HN4.out;omega)
   generalize chL (eff l r)=ts at *
   have h1:(ow==ow)=true:=by simp
   have h2:(lk==lk)=true:=by simp
   have h3:(pc==pc)=true:=by simp
   have a0:=(HX2.out.cell 0).trans rfl
   have a1:=(HX2.out.cell 1).trans rfl
   go_upto_region 5 with(fail)
   have r0:=cell_regrown a0
   have r1:=cell_regrown a1
   have c38:∀d os,Calls Tryz.prog 38 #[.agg #[.slice A n c,.int .i64 r],.int .i64 z] (grow (redrawn w2 d) os) λe w''=>e = .returned (.int .i64 ow)∧∃p:Regrown,w''=grow (redrawn w2 p.d) p.os:=λd os=>Calls.regrown_of (HC38.out _ (bt HB2.out (below_regrown w2 d os)))
   have c39:∀d os,Calls Tryz.prog 39 #[.agg #[.slice A n c,.int .i64 r],.int .i64 z] (grow (redrawn w2 d) os) λe w''=>e = .returned (.int .i64 ow)∧∃p:Regrown,w''=grow (redrawn w2 p.d) p.os:=λd os=>Calls.regrown_of (HC39.out _ (bt HB2.out (below_regrown w2 d os)))
   have c40:∀d os,Calls Tryz.prog 40 #[.agg #[.slice A n c,.int .i64 r],.int .i64 z,.string nm] (grow (redrawn w2 d) os) λe w''=>e = .returned (.int .i64 lk)∧∃p:Regrown,w''=grow (redrawn w2 p.d) p.os:=λd os=>Calls.regrown_of (HC40.out _ (bt HB2.out (below_regrown w2 d os)))
   have c41:∀d os,Calls Tryz.prog 41 #[.agg #[.slice A n c,.int .i64 r],.int .i64 z,.string nm] (grow (redrawn w2 d) os) λe w''=>e = .returned (.int .i64 lk)∧∃p:Regrown,w''=grow (redrawn w2 p.d) p.os:=λd os=>Calls.regrown_of (HC41.out _ (bt HB2.out (below_regrown w2 d os)))
   have c42:∀d os,Calls Tryz.prog 42 #[.agg #[.slice A n c,.int .i64 r],.string nm] (grow (redrawn w2 d) os) λe w''=>e = .returned (.int .i64 pc)∧∃p:Regrown,w''=grow (redrawn w2 p.d) p.os:=λd os=>Calls.regrown_of (HC42.out _ (bt HB2.out (below_regrown w2 d os)))
   have c43:∀d os,Calls Tryz.prog 43 #[.agg #[.slice A n c,.int .i64 r],.string nm] (grow (redrawn w2 d) os) λe w''=>e = .returned (.int .i64 pc)∧∃p:Regrown,w''=grow (redrawn w2 p.d) p.os:=λd os=>Calls.regrown_of (HC43.out _ (bt HB2.out (below_regrown w2 d os)))
   clear a0 a1
   refine wp_region_quiet_below (by kernel_rfl) (by kernel_rfl) ?_
   repeat (go_big_quiet_step (first|exact c38 _ _ |exact c39 _ _ |exact c40 _ _ |exact c41 _ _ |exact c42 _ _ |exact c43 _ _))
   refine wpQuiet_nil ?_
   intro _ hw'
   obtain⟨⟨dq,osq⟩,hw''⟩:=hw'
   subst hw''
   have hbq:=below_regrown w2 dq osq
   generalize grow (redrawn w2 dq) osq=w3 at *
   have HB3:=Lib.hid (bt HB2.out hbq)
   have HX3:=Lib.hid (HX2.out.below hbq HX2.out.lt)
   clear hbq r0 r1 c38 c39 c40 c41 c42 c43 h1 h2 h3 HX2
   go_upto_region 6 with(fail)
   have a0:∀w',Below w3.heap.size w3 w'→w'.cell? ⟨w.heap.size,0,none⟩=some (.slice A n c):=λw' q=>((HX3.out.below q HX3.out.lt).cell 0).trans rfl
   have a1:∀w',Below w3.heap.size w3 w'→w'.cell? ⟨w.heap.size,1,none⟩=some (.int .i64 r):=λw' q=>((HX3.out.below q HX3.out.lt).cell 1).trans rfl
   have h1:(pb==pb)=true:=by simp
   have h2:(tp==tp)=true:=by simp
   have h3:(mn==mn)=true:=by simp
   have hbw1:Below w3.heap.size w3 w3.drew:=(Below.refl _ _).drew
   go_region_held3 (λw'=>Below w3.heap.size w3 w') (first|assumption |go_keep)
    (first|(go_at_call 44;refine(HC44.out _ (bt HB3.out (by assumption))).mono ?_;rintro e w1 ⟨rfl,hb1⟩;have hbw1:=bt (by assumption) hb1) |(go_at_call 45;refine(HC45.out _ (bt HB3.out (by assumption))).mono ?_;rintro e w1 ⟨rfl,hb1⟩;have hbw1:=bt (by assumption) hb1) |(go_at_call 46;refine(HC46.out _ (bt HB3.out (by assumption))).mono ?_;rintro e w1 ⟨rfl,hb1⟩;have hbw1:=bt (by assumption) hb1) |(go_at_call 47;refine(HC47.out _ (bt HB3.out (by assumption))).mono ?_;rintro e w1 ⟨rfl,hb1⟩;have hbw1:=bt (by assumption) hb1) |(go_at_call 48;refine(HC48.out _ (bt HB3.out (by assumption))).mono ?_;rintro e w1 ⟨rfl,hb1⟩;have hbw1:=bt (by assumption) hb1) |(go_at_call 49;refine(HC49.out _ (bt HB3.out (by assumption))).mono ?_;rintro e w1 ⟨rfl,hb1⟩;have hbw1:=bt (by assumption) hb1) |(go_at_call 51;refine(HC51.out _ (bt HB3.out (by assumption))).mono ?_;rintro e w1 ⟨A51,c51,rfl,S51,hb1⟩;have hbw1:=bt (by assumption) hb1;have P51:=Lib.hid (And.intro S51 hbw1);clear S51;try (have P52':=Lib.hid (show Sts w1 A52 ts∧Below w3.heap.size w3 w1 from⟨P52.out.1.below hb1,hbw1⟩))) |(go_at_call 52;refine(HC52.out _ (bt HB3.out (by assumption))).mono ?_;rintro e w1 ⟨A52,c52,rfl,S52,hb1⟩;have hbw1:=bt (by assumption) hb1;have P52:=Lib.hid (And.intro S52 hbw1);clear S52;try (have P51':=Lib.hid (show Sts w1 A51 ts∧Below w3.heap.size w3 w1 from⟨P51.out.1.below hb1,hbw1⟩))) |(go_at_call 50;refine(sameTexts_any (by first|exact P51'.out.1 |exact P51.out.1) (by first|exact P52'.out.1 |exact P52.out.1) HCL.out _ _).mono ?_;rintro e w1 ⟨rfl,hb1⟩;have hbw1:=bt (by assumption) hb1;try rw[decide_eq_true (rfl:ts=ts)]))
   all_goals (have HE:=Lib.hid (bt HB3.out hbw1))
   all_goals (clear a0 a1 hbw1 h1 h2 h3)
   all_goals go_wp2
   all_goals go_ret
   all_goals exact⟨by simp,HE.out⟩
theorem typesTell_w (A:Option Addr)(c:Nat)(l:List Tr.Nd)(r z:Int)(nm:ByteArray)(w:World)(hE:Tk.Errs w)(hN:Nds w A l)(hnum:∀x ∈ l,x.n≤9223372036854775807)(hc:Caps w A l)(_:(Lit.int .i64 z).wf=true):Calls Tryz.prog 10 #[.agg #[.slice A l.length c,.int .i64 r],.int .i64 z,.string nm] w (VPost (.bool true) w):=typesTell_any A c l.length l r z nm w rfl hE hN hnum hc
end
end Go.Proofs.YteecfjhjllajlaaGreatDoor
