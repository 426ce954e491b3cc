/- PROVED here: parts VaC of the claim. No condition but those in each theorem's own head. -/
import Derived.Test.YtignojhijmamhaaGreatJ23
namespace Go.Proofs.YtignojhijmamhaaGreat.Va
open Go Go.RowKit
set_option maxRecDepth 100000 in
theorem divided_zero (s:ByteArray)(a:Int)(w:World):Calls Tryz.prog 49 #[.string s,.int .i64 a,.int .i64 0] w fun e w'=>e = .returned (.tuple #[.agg #[.int .i64 0,.int .i64 0],.int .i64 1,.bool true])∧w'=w.alloc (.cells #[.int .i64 0,.int .i64 0] 43):=by
 go_enter Tryz.func49,Tryz.ntmps49
 go_wp2
 exact bodyPost_ret (v :=.tuple #[.agg #[.int .i64 0,.int .i64 0],.int .i64 1,.bool true]) (by simp[results,Tryz.results49,go_sem]) rfl ⟨rfl,rfl⟩
set_option maxRecDepth 100000 in
theorem divided_quo (a b:Int)(hb:b≠0)(w:World):Calls Tryz.prog 49 #[.string ⟨#[47]⟩,.int .i64 a,.int .i64 b] w fun e w'=>e = .returned (.tuple #[.agg #[.int .i64 1,.int .i64 (wrap64 (a.tdiv b))],.int .i64 0,.bool true])∧w'=(w.alloc (.cells #[.int .i64 1,.int .i64 (wrap64 (a.tdiv b))] 43)).alloc (.cells #[.int .i64 1,.int .i64 (wrap64 (a.tdiv b))] 43):=by
 have hb0:(b==0)=false:=beq_eq_false_iff_ne.2 hb
 have HO:=Lib.hid (fun W=>number_any (wrap64 (a.tdiv b)) W)
 go_enter Tryz.func49,Tryz.ntmps49
 go_wp2_with (go_at_call 31;refine(HO.out _).mono ?_;rintro e w' ⟨rfl,rfl⟩)
 exact bodyPost_ret (v :=.tuple #[.agg #[.int .i64 1,.int .i64 (wrap64 (a.tdiv b))],.int .i64 0,.bool true]) (by simp[results,Tryz.results49,go_sem]) rfl ⟨rfl,rfl⟩
set_option maxRecDepth 100000 in
theorem divided_rem (a b:Int)(hb:b≠0)(w:World):Calls Tryz.prog 49 #[.string ⟨#[37]⟩,.int .i64 a,.int .i64 b] w fun e w'=>e = .returned (.tuple #[.agg #[.int .i64 1,.int .i64 (a.tmod b)],.int .i64 0,.bool true])∧w'=(w.alloc (.cells #[.int .i64 1,.int .i64 (a.tmod b)] 43)).alloc (.cells #[.int .i64 1,.int .i64 (a.tmod b)] 43):=by
 have hb0:(b==0)=false:=beq_eq_false_iff_ne.2 hb
 have HO:=Lib.hid (fun W=>number_any (a.tmod b) W)
 go_enter Tryz.func49,Tryz.ntmps49
 go_wp2_with (go_at_call 31;refine(HO.out _).mono ?_;rintro e w' ⟨rfl,rfl⟩)
 exact bodyPost_ret (v :=.tuple #[.agg #[.int .i64 1,.int .i64 (a.tmod b)],.int .i64 0,.bool true]) (by simp[results,Tryz.results49,go_sem]) rfl ⟨rfl,rfl⟩
set_option maxRecDepth 100000 in
theorem numbers_any (s:ByteArray)(a b:Int)(w:World):Calls Tryz.prog 82 #[.string s,.int .i64 a,.int .i64 b] w (V3 (numR s a b).1.1 (numR s a b).1.2 (numR s a b).2.1 (numR s a b).2.2 w):=by
 by_cases h0:s=⟨#[43]⟩
 ·subst h0
  have e0:=str_eq ⟨#[43]⟩
  have d1:=str_ne (show(⟨#[43]⟩:ByteArray)≠⟨#[45]⟩by decide)
  have d2:=str_ne (show(⟨#[43]⟩:ByteArray)≠⟨#[42]⟩by decide)
  have d3:=str_ne (show(⟨#[43]⟩:ByteArray)≠⟨#[47]⟩by decide)
  have d4:=str_ne (show(⟨#[43]⟩:ByteArray)≠⟨#[37]⟩by decide)
  rw[show numR ⟨#[43]⟩ a b=((1,wrap64 (a+b)),0,true)by unfold numR;rw[if_pos rfl]]
  show Calls _ _ _ _ (V3 1 (wrap64 (a+b)) 0 true w)
  go_enter Tryz.func82,Tryz.ntmps82
  go_wp2
  exact bodyPost_ret (v :=.tuple #[.agg #[.int .i64 1,.int .i64 (wrap64 (a+b))],.int .i64 0,.bool true]) (by simp[results,Tryz.results82,go_sem]) rfl ⟨rfl,(heap1 _ _)⟩
 ·have n0:=str_nl (l:=[43]) h0
  by_cases h1:s=⟨#[45]⟩
  ·subst h1
   have e1:=str_eq ⟨#[45]⟩
   have d0:=str_ne (show(⟨#[45]⟩:ByteArray)≠⟨#[43]⟩by decide)
   have d2:=str_ne (show(⟨#[45]⟩:ByteArray)≠⟨#[42]⟩by decide)
   have d3:=str_ne (show(⟨#[45]⟩:ByteArray)≠⟨#[47]⟩by decide)
   have d4:=str_ne (show(⟨#[45]⟩:ByteArray)≠⟨#[37]⟩by decide)
   clear n0 h0
   rw[show numR ⟨#[45]⟩ a b=((1,wrap64 (a-b)),0,true)by unfold numR;rw[if_neg (by decide),if_pos rfl]]
   show Calls _ _ _ _ (V3 1 (wrap64 (a-b)) 0 true w)
   go_enter Tryz.func82,Tryz.ntmps82
   go_wp2
   exact bodyPost_ret (v :=.tuple #[.agg #[.int .i64 1,.int .i64 (wrap64 (a-b))],.int .i64 0,.bool true]) (by simp[results,Tryz.results82,go_sem]) rfl ⟨rfl,(heap1 _ _)⟩
  ·have n1:=str_nl (l:=[45]) h1
   by_cases h2:s=⟨#[42]⟩
   ·subst h2
    have e2:=str_eq ⟨#[42]⟩
    have d0:=str_ne (show(⟨#[42]⟩:ByteArray)≠⟨#[43]⟩by decide)
    have d1:=str_ne (show(⟨#[42]⟩:ByteArray)≠⟨#[45]⟩by decide)
    have d3:=str_ne (show(⟨#[42]⟩:ByteArray)≠⟨#[47]⟩by decide)
    have d4:=str_ne (show(⟨#[42]⟩:ByteArray)≠⟨#[37]⟩by decide)
    clear n0 h0
    clear n1 h1
    rw[show numR ⟨#[42]⟩ a b=((1,wrap64 (a*b)),0,true)by unfold numR;rw[if_neg (by decide),if_neg (by decide),if_pos rfl]]
    show Calls _ _ _ _ (V3 1 (wrap64 (a*b)) 0 true w)
    go_enter Tryz.func82,Tryz.ntmps82
    go_wp2
    exact bodyPost_ret (v :=.tuple #[.agg #[.int .i64 1,.int .i64 (wrap64 (a*b))],.int .i64 0,.bool true]) (by simp[results,Tryz.results82,go_sem]) rfl ⟨rfl,(heap1 _ _)⟩
   ·have n2:=str_nl (l:=[42]) h2
    by_cases h3:s=⟨#[47]⟩
    ·subst h3
     have e3:=str_eq ⟨#[47]⟩
     have d0:=str_ne (show(⟨#[47]⟩:ByteArray)≠⟨#[43]⟩by decide)
     have d1:=str_ne (show(⟨#[47]⟩:ByteArray)≠⟨#[45]⟩by decide)
     have d2:=str_ne (show(⟨#[47]⟩:ByteArray)≠⟨#[42]⟩by decide)
     have d4:=str_ne (show(⟨#[47]⟩:ByteArray)≠⟨#[37]⟩by decide)
     clear n0 h0
     clear n1 h1
     clear n2 h2
     rw[show numR ⟨#[47]⟩ a b=divR (wrap64 (a.tdiv b)) b by unfold numR;rw[if_neg (by decide),if_neg (by decide),if_neg (by decide),if_pos rfl]]
     by_cases hb:b=0
     ·subst hb
      show Calls _ _ _ _ (V3 0 0 1 true w)
      go_enter Tryz.func82,Tryz.ntmps82
      go_wp2
      exact bodyPost_ret (v :=.tuple #[.agg #[.int .i64 0,.int .i64 0],.int .i64 1,.bool true]) (by simp[results,Tryz.results82,go_sem]) rfl ⟨rfl,(heap1 _ _)⟩
     ·rw[divR,if_neg hb]
      show Calls _ _ _ _ (V3 1 (wrap64 (a.tdiv b)) 0 true w)
      have hb0:(b==0)=false:=beq_eq_false_iff_ne.2 hb
      go_enter Tryz.func82,Tryz.ntmps82
      go_wp2
      exact bodyPost_ret (v :=.tuple #[.agg #[.int .i64 1,.int .i64 (wrap64 (a.tdiv b))],.int .i64 0,.bool true]) (by simp[results,Tryz.results82,go_sem]) rfl ⟨rfl,(heap1 _ _)⟩
    ·have n3:=str_nl (l:=[47]) h3
     by_cases h4:s=⟨#[37]⟩
     ·subst h4
      have e4:=str_eq ⟨#[37]⟩
      have d0:=str_ne (show(⟨#[37]⟩:ByteArray)≠⟨#[43]⟩by decide)
      have d1:=str_ne (show(⟨#[37]⟩:ByteArray)≠⟨#[45]⟩by decide)
      have d2:=str_ne (show(⟨#[37]⟩:ByteArray)≠⟨#[42]⟩by decide)
      have d3:=str_ne (show(⟨#[37]⟩:ByteArray)≠⟨#[47]⟩by decide)
      clear n0 h0
      clear n1 h1
      clear n2 h2
      clear n3 h3
      rw[show numR ⟨#[37]⟩ a b=divR (a.tmod b) b by unfold numR;rw[if_neg (by decide),if_neg (by decide),if_neg (by decide),if_neg (by decide),if_pos rfl]]
      by_cases hb:b=0
      ·subst hb
       show Calls _ _ _ _ (V3 0 0 1 true w)
       go_enter Tryz.func82,Tryz.ntmps82
       go_wp2
       exact bodyPost_ret (v :=.tuple #[.agg #[.int .i64 0,.int .i64 0],.int .i64 1,.bool true]) (by simp[results,Tryz.results82,go_sem]) rfl ⟨rfl,(heap1 _ _)⟩
      ·rw[divR,if_neg hb]
       show Calls _ _ _ _ (V3 1 (a.tmod b) 0 true w)
       have hb0:(b==0)=false:=beq_eq_false_iff_ne.2 hb
       go_enter Tryz.func82,Tryz.ntmps82
       go_wp2
       exact bodyPost_ret (v :=.tuple #[.agg #[.int .i64 1,.int .i64 (a.tmod b)],.int .i64 0,.bool true]) (by simp[results,Tryz.results82,go_sem]) rfl ⟨rfl,(heap1 _ _)⟩
     ·have n4:=str_nl (l:=[37]) h4
      rw[show numR s a b=optT (cmpR s a b)by unfold numR;rw[if_neg h0,if_neg h1,if_neg h2,if_neg h3,if_neg h4]]
      have HP:=Lib.hid (fun W=>held_any s a b W)
      clear h0 h1 h2 h3 h4
      generalize cmpR s a b=c at *
      cases c with
      |none=>
       show Calls _ _ _ _ (V3 0 0 0 false w)
       rw[show optP none=((0,0),false)from rfl]at HP
       have hX:=Bx.new w 49 [.int .i64 0,.int .i64 0]
       go_enter Tryz.func82,Tryz.ntmps82
       go_wp2_with (go_at_call 107;refine(HP.out _).mono ?_)
       rintro e w1 ⟨rfl,hb1⟩
       have hX1:=hX.below hb1 hX.lt
       have c0:=(hX1.cell 0).trans rfl
       have c1:=(hX1.cell 1).trans rfl
       have f0:=hX1.frozen 0
       have f1:=hX1.frozen 1
       have hz:=hX1.lt
       have HB:=Lib.hid (bt (heap1 w _) hb1)
       clear hb1 hX hX1
       go_wp2
       exact bodyPost_ret (v :=.tuple #[.agg #[.int .i64 0,.int .i64 0],.int .i64 0,.bool false]) (by simp[results,Tryz.results82,go_sem,c0,c1,hz]) rfl ⟨rfl,(below2 HB.out (Nat.le_refl _)).alloc (by simpa using HB.out.size) _⟩
      |some t=>
       show Calls _ _ _ _ (V3 2 (tB t) 0 true w)
       rw[show optP (some t)=((2,tB t),true)from rfl]at HP
       have hX:=Bx.new w 49 [.int .i64 0,.int .i64 0]
       go_enter Tryz.func82,Tryz.ntmps82
       go_wp2_with (go_at_call 107;refine(HP.out _).mono ?_)
       rintro e w1 ⟨rfl,hb1⟩
       have hX1:=hX.below hb1 hX.lt
       have c0:=(hX1.cell 0).trans rfl
       have c1:=(hX1.cell 1).trans rfl
       have f0:=hX1.frozen 0
       have f1:=hX1.frozen 1
       have hz:=hX1.lt
       have HB:=Lib.hid (bt (heap1 w _) hb1)
       clear hb1 hX hX1
       go_wp2
       exact bodyPost_ret (v :=.tuple #[.agg #[.int .i64 2,.int .i64 (tB t)],.int .i64 0,.bool true]) (by simp[results,Tryz.results82,go_sem,c0,c1,hz]) rfl ⟨rfl,(below2 HB.out (Nat.le_refl _)).alloc (by simpa using HB.out.size) _⟩
set_option maxRecDepth 100000 in
theorem ofNumbers_any (s:ByteArray)(a b:Int)(w:World):Calls Tryz.prog 25 #[.string s,.int .i64 a,.int .i64 b] w (V3 (numR s a b).1.1 (numR s a b).1.2 (numR s a b).2.1 (numR s a b).2.2 w):=by
 by_cases h0:s=⟨#[43]⟩
 ·subst h0
  have e0:=str_eq ⟨#[43]⟩
  have d1:=str_ne (show(⟨#[43]⟩:ByteArray)≠⟨#[45]⟩by decide)
  have d2:=str_ne (show(⟨#[43]⟩:ByteArray)≠⟨#[42]⟩by decide)
  have d3:=str_ne (show(⟨#[43]⟩:ByteArray)≠⟨#[47]⟩by decide)
  have d4:=str_ne (show(⟨#[43]⟩:ByteArray)≠⟨#[37]⟩by decide)
  rw[show numR ⟨#[43]⟩ a b=((1,wrap64 (a+b)),0,true)by unfold numR;rw[if_pos rfl]]
  show Calls _ _ _ _ (V3 1 (wrap64 (a+b)) 0 true w)
  have HC:=Lib.hid (fun W=>calculated_any ⟨#[43]⟩ a b W)
  rw[show calR ⟨#[43]⟩ a b=some (wrap64 (a+b))by unfold calR;rw[if_pos rfl],show optZ2 (some (wrap64 (a+b)))=(wrap64 (a+b),true)from rfl]at HC
  have HO:=Lib.hid (fun W=>number_any (wrap64 (a+b)) W)
  go_enter Tryz.func25,Tryz.ntmps25
  go_wp2_with (first|(go_at_call 50;refine(HC.out _).mono ?_;rintro e w' ⟨rfl,rfl⟩) |(go_at_call 31;refine(HO.out _).mono ?_;rintro e w' ⟨rfl,rfl⟩))
  exact bodyPost_ret (v :=.tuple #[.agg #[.int .i64 1,.int .i64 (wrap64 (a+b))],.int .i64 0,.bool true]) (by simp[results,Tryz.results25,go_sem]) rfl ⟨rfl,(heap1 _ _).alloc (by simp) _⟩
 ·have n0:=str_nl (l:=[43]) h0
  by_cases h1:s=⟨#[45]⟩
  ·subst h1
   have e1:=str_eq ⟨#[45]⟩
   have d0:=str_ne (show(⟨#[45]⟩:ByteArray)≠⟨#[43]⟩by decide)
   have d2:=str_ne (show(⟨#[45]⟩:ByteArray)≠⟨#[42]⟩by decide)
   have d3:=str_ne (show(⟨#[45]⟩:ByteArray)≠⟨#[47]⟩by decide)
   have d4:=str_ne (show(⟨#[45]⟩:ByteArray)≠⟨#[37]⟩by decide)
   clear n0 h0
   rw[show numR ⟨#[45]⟩ a b=((1,wrap64 (a-b)),0,true)by unfold numR;rw[if_neg (by decide),if_pos rfl]]
   show Calls _ _ _ _ (V3 1 (wrap64 (a-b)) 0 true w)
   have HC:=Lib.hid (fun W=>calculated_any ⟨#[45]⟩ a b W)
   rw[show calR ⟨#[45]⟩ a b=some (wrap64 (a-b))by unfold calR;rw[if_neg (by decide),if_pos rfl],show optZ2 (some (wrap64 (a-b)))=(wrap64 (a-b),true)from rfl]at HC
   have HO:=Lib.hid (fun W=>number_any (wrap64 (a-b)) W)
   go_enter Tryz.func25,Tryz.ntmps25
   go_wp2_with (first|(go_at_call 50;refine(HC.out _).mono ?_;rintro e w' ⟨rfl,rfl⟩) |(go_at_call 31;refine(HO.out _).mono ?_;rintro e w' ⟨rfl,rfl⟩))
   exact bodyPost_ret (v :=.tuple #[.agg #[.int .i64 1,.int .i64 (wrap64 (a-b))],.int .i64 0,.bool true]) (by simp[results,Tryz.results25,go_sem]) rfl ⟨rfl,(heap1 _ _).alloc (by simp) _⟩
  ·have n1:=str_nl (l:=[45]) h1
   by_cases h2:s=⟨#[42]⟩
   ·subst h2
    have e2:=str_eq ⟨#[42]⟩
    have d0:=str_ne (show(⟨#[42]⟩:ByteArray)≠⟨#[43]⟩by decide)
    have d1:=str_ne (show(⟨#[42]⟩:ByteArray)≠⟨#[45]⟩by decide)
    have d3:=str_ne (show(⟨#[42]⟩:ByteArray)≠⟨#[47]⟩by decide)
    have d4:=str_ne (show(⟨#[42]⟩:ByteArray)≠⟨#[37]⟩by decide)
    clear n0 h0
    clear n1 h1
    rw[show numR ⟨#[42]⟩ a b=((1,wrap64 (a*b)),0,true)by unfold numR;rw[if_neg (by decide),if_neg (by decide),if_pos rfl]]
    show Calls _ _ _ _ (V3 1 (wrap64 (a*b)) 0 true w)
    have HC:=Lib.hid (fun W=>calculated_any ⟨#[42]⟩ a b W)
    rw[show calR ⟨#[42]⟩ a b=some (wrap64 (a*b))by unfold calR;rw[if_neg (by decide),if_neg (by decide),if_pos rfl],show optZ2 (some (wrap64 (a*b)))=(wrap64 (a*b),true)from rfl]at HC
    have HO:=Lib.hid (fun W=>number_any (wrap64 (a*b)) W)
    go_enter Tryz.func25,Tryz.ntmps25
    go_wp2_with (first|(go_at_call 50;refine(HC.out _).mono ?_;rintro e w' ⟨rfl,rfl⟩) |(go_at_call 31;refine(HO.out _).mono ?_;rintro e w' ⟨rfl,rfl⟩))
    exact bodyPost_ret (v :=.tuple #[.agg #[.int .i64 1,.int .i64 (wrap64 (a*b))],.int .i64 0,.bool true]) (by simp[results,Tryz.results25,go_sem]) rfl ⟨rfl,(heap1 _ _).alloc (by simp) _⟩
   ·have n2:=str_nl (l:=[42]) h2
    by_cases h3:s=⟨#[47]⟩
    ·subst h3
     have e3:=str_eq ⟨#[47]⟩
     have d0:=str_ne (show(⟨#[47]⟩:ByteArray)≠⟨#[43]⟩by decide)
     have d1:=str_ne (show(⟨#[47]⟩:ByteArray)≠⟨#[45]⟩by decide)
     have d2:=str_ne (show(⟨#[47]⟩:ByteArray)≠⟨#[42]⟩by decide)
     have d4:=str_ne (show(⟨#[47]⟩:ByteArray)≠⟨#[37]⟩by decide)
     clear n0 h0
     clear n1 h1
     clear n2 h2
     rw[show numR ⟨#[47]⟩ a b=divR (wrap64 (a.tdiv b)) b by unfold numR;rw[if_neg (by decide),if_neg (by decide),if_neg (by decide),if_pos rfl]]
     by_cases hb:b=0
     ·subst hb
      show Calls _ _ _ _ (V3 0 0 1 true w)
      have HC:=Lib.hid (fun W=>divided_zero ⟨#[47]⟩ a W)
      go_enter Tryz.func25,Tryz.ntmps25
      go_wp2_with (go_at_call 49;refine(HC.out _).mono ?_;rintro e w' ⟨rfl,rfl⟩)
      exact bodyPost_ret (v :=.tuple #[.agg #[.int .i64 0,.int .i64 0],.int .i64 1,.bool true]) (by simp[results,Tryz.results25,go_sem]) rfl ⟨rfl,(heap1 _ _).alloc (by simp) _⟩
     ·rw[divR,if_neg hb]
      show Calls _ _ _ _ (V3 1 (wrap64 (a.tdiv b)) 0 true w)
      have hb0:(b==0)=false:=beq_eq_false_iff_ne.2 hb
      have HC:=Lib.hid (fun W=>divided_quo a b hb W)
      go_enter Tryz.func25,Tryz.ntmps25
      go_wp2_with (go_at_call 49;refine(HC.out _).mono ?_;rintro e w' ⟨rfl,rfl⟩)
      exact bodyPost_ret (v :=.tuple #[.agg #[.int .i64 1,.int .i64 (wrap64 (a.tdiv b))],.int .i64 0,.bool true]) (by simp[results,Tryz.results25,go_sem]) rfl ⟨rfl,((heap1 _ _).alloc (by simp) _).alloc (by rw[World.size_alloc,World.size_alloc];omega) _⟩
    ·have n3:=str_nl (l:=[47]) h3
     by_cases h4:s=⟨#[37]⟩
     ·subst h4
      have e4:=str_eq ⟨#[37]⟩
      have d0:=str_ne (show(⟨#[37]⟩:ByteArray)≠⟨#[43]⟩by decide)
      have d1:=str_ne (show(⟨#[37]⟩:ByteArray)≠⟨#[45]⟩by decide)
      have d2:=str_ne (show(⟨#[37]⟩:ByteArray)≠⟨#[42]⟩by decide)
      have d3:=str_ne (show(⟨#[37]⟩:ByteArray)≠⟨#[47]⟩by decide)
      clear n0 h0
      clear n1 h1
      clear n2 h2
      clear n3 h3
      rw[show numR ⟨#[37]⟩ a b=divR (a.tmod b) b by unfold numR;rw[if_neg (by decide),if_neg (by decide),if_neg (by decide),if_neg (by decide),if_pos rfl]]
      by_cases hb:b=0
      ·subst hb
       show Calls _ _ _ _ (V3 0 0 1 true w)
       have HC:=Lib.hid (fun W=>divided_zero ⟨#[37]⟩ a W)
       go_enter Tryz.func25,Tryz.ntmps25
       go_wp2_with (go_at_call 49;refine(HC.out _).mono ?_;rintro e w' ⟨rfl,rfl⟩)
       exact bodyPost_ret (v :=.tuple #[.agg #[.int .i64 0,.int .i64 0],.int .i64 1,.bool true]) (by simp[results,Tryz.results25,go_sem]) rfl ⟨rfl,(heap1 _ _).alloc (by simp) _⟩
      ·rw[divR,if_neg hb]
       show Calls _ _ _ _ (V3 1 (a.tmod b) 0 true w)
       have hb0:(b==0)=false:=beq_eq_false_iff_ne.2 hb
       have HC:=Lib.hid (fun W=>divided_rem a b hb W)
       go_enter Tryz.func25,Tryz.ntmps25
       go_wp2_with (go_at_call 49;refine(HC.out _).mono ?_;rintro e w' ⟨rfl,rfl⟩)
       exact bodyPost_ret (v :=.tuple #[.agg #[.int .i64 1,.int .i64 (a.tmod b)],.int .i64 0,.bool true]) (by simp[results,Tryz.results25,go_sem]) rfl ⟨rfl,((heap1 _ _).alloc (by simp) _).alloc (by rw[World.size_alloc,World.size_alloc];omega) _⟩
     ·have n4:=str_nl (l:=[37]) h4
      rw[show numR s a b=optT (cmpR s a b)by unfold numR;rw[if_neg h0,if_neg h1,if_neg h2,if_neg h3,if_neg h4]]
      have HC:=Lib.hid (fun W=>calculated_any s a b W)
      rw[show calR s a b=none by unfold calR;rw[if_neg h0,if_neg h1,if_neg h2],show optZ2 none=(0,false)from rfl]at HC
      have HP:=Lib.hid (fun W=>compared_any s a b W)
      clear h0 h1 h2 h3 h4
      generalize cmpR s a b=c at *
      cases c with
      |none=>
       show Calls _ _ _ _ (V3 0 0 0 false w)
       rw[show optB2 none=(false,false)from rfl]at HP
       go_enter Tryz.func25,Tryz.ntmps25
       go_wp2_with (first|(go_at_call 50;refine(HC.out _).mono ?_;rintro e w' ⟨rfl,rfl⟩) |(go_at_call 51;refine(HP.out _).mono ?_;rintro e w' ⟨rfl,rfl⟩))
       exact bodyPost_ret (v :=.tuple #[.agg #[.int .i64 0,.int .i64 0],.int .i64 0,.bool false]) (by simp[results,Tryz.results25,go_sem]) rfl ⟨rfl,(heap1 _ _)⟩
      |some t=>
       show Calls _ _ _ _ (V3 2 (tB t) 0 true w)
       rw[show optB2 (some t)=(t,true)from rfl]at HP
       have HO:=Lib.hid (fun W=>truth_any t W)
       go_enter Tryz.func25,Tryz.ntmps25
       go_wp2_with (first|(go_at_call 50;refine(HC.out _).mono ?_;rintro e w' ⟨rfl,rfl⟩) |(go_at_call 51;refine(HP.out _).mono ?_;rintro e w' ⟨rfl,rfl⟩) |(go_at_call 52;refine(HO.out _).mono ?_;rintro e w' ⟨rfl,rfl⟩))
       exact bodyPost_ret (v :=.tuple #[.agg #[.int .i64 2,.int .i64 (tB t)],.int .i64 0,.bool true]) (by simp[results,Tryz.results25,go_sem]) rfl ⟨rfl,(heap1 _ _).alloc (by simp) _⟩
end Go.Proofs.YtignojhijmamhaaGreat.Va
