/- PROVED here: the law BitsJoin returns true at any two lists, where the library's tables are as its text lays them. No condition but those in each theorem's own head. -/
import Derived.Test.YtabdhmfjbielaaaDoorRq
namespace Go.Proofs.YtabdhmfjbielaaaDoor
open Go Go.RowKit
theorem h_regionC {w0 w : World} {a : Act} {Q : Exit → Act → World → Prop} {id : Nat} {l : List Oper} (hC : Cl w0 w) (h : Cl w0 { w with drawn := w.drawn + 1 } → wpAnyH Tryd.prog .any l.toArray Q (Cl w0) l.toArray.size (Array.replicate l.toArray.size false) a { w with drawn := w.drawn + 1 }) :
    (Code.region id l.toArray true).wp Tryd.prog Q a w := wp_region_held (by kernel_rfl) (h ⟨hC.os, hC.tape, hC.output, hC.size, hC.block⟩)
/-- a call that answers one of the document's sets -/
theorem h_callR {ops : Array Oper} {Q : Exit → Act → World → Prop} {fuel : Nat} {listed : Array Bool} {a : Act} {w w0 : World} (i : Nat) (o : Oper) {F : Nat} {xs : Array Operand} {ts : Array TypeId} {args : Array Value} {l : List Int} (hF : Own F) (ho : o.op = .call { callee := .value (.func F), args := xs, argTypes := ts }) (hi : ops[i]? = some o) (hr : Region.ready .any ops listed = [i])
    (hw : Region.wanted o (yielded ops a.tmps) = true) (ha' : (xs.toList.map a.eval).toArray = args) (hS : Cl w0 w) (hc : Calls Tryd.prog F args w (RPost l w))
    (h : ∀ A c w', RL w' A c l → Cl w0 w' → wpAnyH Tryd.prog .any ops Q (Cl w0) fuel (listed.setIfInBounds i true) (a.put o.dst (.agg #[.slice A l.length c])) w') : wpAnyH Tryd.prog .any ops Q (Cl w0) (fuel + 1) listed a w :=
  h_call i o (fun u w' => ∃ A c, u = .agg #[.slice A l.length c] ∧ RL w' A c l ∧ Below w.heap.size w w') hF ho hi hr hw ha' (hc.mono fun _ _ ⟨A, c, he, hR, hb⟩ => ⟨_, he, A, c, rfl, hR, hb⟩) fun u w' ⟨A, c, hu, hR, hb⟩ => by subst hu; exact ⟨hS.trans hb, h A c w' hR (hS.trans hb)⟩
theorem RL.cl {w w' : World} {A : Option Addr} {c : Nat} {l : List Int} (h : RL w A c l) (hc : Cl w w') : RL w' A c l := h.below hc
theorem own11 : Own 11 := ⟨_, Tryd.func11, by kernel_rfl, by kernel_rfl⟩
theorem own14 : Own 14 := ⟨_, Tryd.func14, by kernel_rfl, by kernel_rfl⟩
theorem own16 : Own 16 := ⟨_, Tryd.func16, by kernel_rfl, by kernel_rfl⟩
theorem own20 : Own 20 := ⟨_, Tryd.func20, by kernel_rfl, by kernel_rfl⟩
theorem own22 : Own 22 := ⟨_, Tryd.func22, by kernel_rfl, by kernel_rfl⟩
theorem own25 : Own 25 := ⟨_, Tryd.func25, by kernel_rfl, by kernel_rfl⟩
theorem own27 : Own 27 := ⟨_, Tryd.func27, by kernel_rfl, by kernel_rfl⟩
theorem own29 : Own 29 := ⟨_, Tryd.func29, by kernel_rfl, by kernel_rfl⟩
theorem own31 : Own 31 := ⟨_, Tryd.func31, by kernel_rfl, by kernel_rfl⟩
theorem own33 : Own 33 := ⟨_, Tryd.func33, by kernel_rfl, by kernel_rfl⟩

set_option maxRecDepth 100000 in
set_option maxHeartbeats 8000000 in
theorem bitsJoin_any (P1 P2 : Option Addr) (c1 c2 : Nat) (l1 l2 : List Int) (w : World) (hT : Tabs w) (hi1 : Ints w P1 l1) (hi2 : Ints w P2 l2) :
    Calls Tryd.prog 4 #[.slice P1 l1.length c1, .slice P2 l2.length c2] w fun e w' => e = .returned (.bool true) ∧ Below w.heap.size w w' := by
  have HT := Lib.hid (fun w' (hb : Below w.heap.size w w') => hT.below hb)
  have HI1 := Lib.hid hi1
  have HI2 := Lib.hid hi2
  clear hT hi1 hi2
  cases hs : shortB l1.length l2.length 0 with
  | false =>
    have S0 := fun w => short_any P1 P2 none l1.length l2.length 0 c1 c2 0 w
    rw [hs] at S0
    have S1 := Lib.hid S0
    clear hs S0
    go_enter Tryd.func4, Tryd.ntmps4
    go_wp2_with (first
      | (go_at_call 9; refine (shown _ HT).mono ?_; rintro e w1 ⟨rfl, hb1⟩)
      | (go_at_call 23; refine (S1.out _).mono ?_; rintro e w2 ⟨rfl, rfl⟩))
    go_ret
    exact ⟨rfl, hb1⟩
  | true =>
    have hlen : l1.length ≤ 300 ∧ l2.length ≤ 300 := by
      simpa [shortB] using hs
    obtain ⟨hl1, hl2⟩ := hlen
    have S0 := fun w => short_any P1 P2 none l1.length l2.length 0 c1 c2 0 w
    rw [hs] at S0
    have S1 := Lib.hid S0
    clear hs S0
    go_enter Tryd.func4, Tryd.ntmps4
    go_upto_region 5 with (first
      | (go_at_call 9; refine (shown _ HT).mono ?_; rintro e w1 ⟨rfl, hb1⟩)
      | (go_at_call 23; refine (S1.out _).mono ?_; rintro e w2 ⟨rfl, rfl⟩))
    go_upto_region 6 with (first
      | (go_at_call 10; refine (Of P1 c1 l1 _ (by omega) (HI1.out.below hb1)).mono ?_; rintro e w3 ⟨rfl, hb3⟩)
      | ((with_reducible apply alloc_store); (exact rfl); (exact rfl); intro w4 hb4 l7' b7'; simp only [Act.put, List.setIfInBounds_toArray, List.set_cons_zero, List.set_cons_succ]))
    have hB4 : Below w.heap.size w w4 := bt hb1 (bt hb3 hb4)
    generalize w3.heap.size = g7 at *
    clear hb1 hb3 hb4
    go_upto_region 7 with (first
      | (go_at_call 10; refine (Of P2 c2 l2 _ (by omega) (HI2.out.below hB4)).mono ?_; rintro e w5 ⟨rfl, hb5⟩)
      | ((with_reducible apply alloc_store); (exact rfl); (exact rfl); intro w6 hb6 l8' b8'; simp only [Act.put, List.setIfInBounds_toArray, List.set_cons_zero, List.set_cons_succ]))
    have hB6 : Below w.heap.size w w6 := bt hB4 (bt hb5 hb6)
    have b76 := blk_below b7' l7' (bt hb5 hb6)
    have l76 := Nat.lt_of_lt_of_le l7' (bt hb5 hb6).size
    generalize w5.heap.size = g8 at *
    clear hb5 hb6 hB4 b7' l7'
    go_upto_region 8 with (go_at_call 11; refine (ROf P1 c1 l1 _ (by omega) (HI1.out.below hB6)).mono ?_; rintro e w7 ⟨X, cx, rfl, hRX, hb7⟩)
    generalize HXe : els (ofL l1) 4096 = lx at *
    have HX := Lib.hid HXe
    clear HXe
    refine gen_world (fun w8 => Below w6.heap.size w6 w8 ∧ Blk1 w8 w7.heap.size (.slice X lx.length cx) ∧ RL w8 X cx lx) ⟨bt hb7 (heap1 w7 _), heap_alloc_new w7 _, hRX.alloc _⟩ ?_
    rintro w8 ⟨hb8, b9', hRX8⟩
    have hB8 : Below w.heap.size w w8 := bt hB6 hb8
    have b78 := blk_below b76 l76 hb8
    have l78 := Nat.lt_of_lt_of_le l76 hb8.size
    have b88 := blk_below b8' l8' hb8
    have l88 := Nat.lt_of_lt_of_le l8' hb8.size
    generalize w7.heap.size = g9 at *
    clear hb7 hb8 hRX b76 l76 b8' l8' hB6
    go_upto_region 9 with (go_at_call 11; refine (ROf P2 c2 l2 _ (by omega) (HI2.out.below hB8)).mono ?_; rintro e w9 ⟨Y, cy, rfl, hRY, hb9⟩)
    generalize HYe : els (ofL l2) 4096 = ly at *
    have HY := Lib.hid HYe
    clear HYe
    refine gen_world (fun w10 => Below w8.heap.size w8 w10 ∧ Blk1 w10 w9.heap.size (.slice Y ly.length cy) ∧ RL w10 Y cy ly) ⟨bt hb9 (heap1 w9 _), heap_alloc_new w9 _, hRY.alloc _⟩ ?_
    rintro w10 ⟨hb10, b10, hY0⟩
    have hB : Below w.heap.size w w10 := bt hB8 hb10
    have b7 := blk_below b78 l78 hb10
    have l7 := Nat.lt_of_lt_of_le l78 hb10.size
    have b8 := blk_below b88 l88 hb10
    have l8 := Nat.lt_of_lt_of_le l88 hb10.size
    have b9 : Blk1 w10 _ _ := (hb10.block _ b9'.lt).trans b9'
    have hX0 := hRX8.below hb10
    generalize w9.heap.size = g10 at *
    clear hb9 hb10 hRY hRX8 b78 l78 b88 l88 b9' hB8
    have hA := small_ofL l1
    have hBs := small_ofL l2
    generalize ofL l1 = A at *
    generalize ofL l2 = B at *
    clear HI1 HI2 S1
    have hSs : Cl w10 w10 := Below.refl _ _
    refine h_regionC hSs ?_
    intro hSp0
    refine h_pure 0 ({ dst := some 33, op := Op.load 27 (Operand.tmp 7), type := 27, pos := "law.go:64", after := #[], guard := none } : Oper) (.agg (ofF (wd A))) (by kernel_rfl) rfl (by kernel_rfl) (by kernel_rfl) (fun _ _ _ h => h) rfl (y_load (g := g7) (f := wd A) rfl rfl (load_blk b7 l7)) hSp0 ?_
    simp only [Act.put, List.setIfInBounds_toArray, List.set_cons_zero, List.set_cons_succ]
    refine h_pure 1 ({ dst := some 34, op := Op.load 27 (Operand.tmp 8), type := 27, pos := "law.go:64", after := #[], guard := none } : Oper) (.agg (ofF (wd B))) (by kernel_rfl) rfl (by kernel_rfl) (by kernel_rfl) (fun _ _ _ h => h) rfl (y_load (g := g8) (f := wd B) rfl rfl (load_blk b8 l8)) hSp0 ?_
    simp only [Act.put, List.setIfInBounds_toArray, List.set_cons_zero, List.set_cons_succ]
    refine h_pure 3 ({ dst := some 36, op := Op.load 30 (Operand.tmp 9), type := 30, pos := "law.go:64", after := #[], guard := none } : Oper) (.agg #[.slice X lx.length cx]) (by kernel_rfl) rfl (by kernel_rfl) (by kernel_rfl) (fun _ _ _ h => h) rfl (y_load30 (g := g9) rfl rfl (b9.bel b9.lt)) hSp0 ?_
    simp only [Act.put, List.setIfInBounds_toArray, List.set_cons_zero, List.set_cons_succ]
    refine h_pure 4 ({ dst := some 37, op := Op.load 30 (Operand.tmp 10), type := 30, pos := "law.go:64", after := #[], guard := none } : Oper) (.agg #[.slice Y ly.length cy]) (by kernel_rfl) rfl (by kernel_rfl) (by kernel_rfl) (fun _ _ _ h => h) rfl (y_load30 (g := g10) rfl rfl (b10.bel b10.lt)) hSp0 ?_
    simp only [Act.put, List.setIfInBounds_toArray, List.set_cons_zero, List.set_cons_succ]
    refine h_callv 2 ({ dst := some 35, op := Op.call { callee := Callee.value (Operand.func 24), args := #[Operand.tmp 33, Operand.tmp 34], argTypes := #[27, 27] }, type := 27, pos := "law.go:64", after := #[{ on := 0, ground := Ground.data }, { on := 1, ground := Ground.data }], guard := none } : Oper) (args := #[.agg (ofF (wd A)), .agg (ofF (wd B))]) (v := .agg (ofF (wd (A ||| B)))) own24 rfl rfl (by kernel_rfl) rfl rfl hSp0 (Or A B _) ?_
    intro wp1 hbp1 hSp1
    simp only [Act.put, List.setIfInBounds_toArray, List.set_cons_zero, List.set_cons_succ]
    refine h_callR 5 ({ dst := some 38, op := Op.call { callee := Callee.value (Operand.func 25), args := #[Operand.tmp 36, Operand.tmp 37], argTypes := #[30, 30] }, type := 30, pos := "law.go:64", after := #[{ on := 3, ground := Ground.data }, { on := 4, ground := Ground.data }, { on := 2, ground := Ground.chain }], guard := none } : Oper) (args := #[.agg #[.slice X lx.length cx], .agg #[.slice Y ly.length cy]]) (l := els (A ||| B) 4096) own25 rfl rfl (by kernel_rfl) rfl rfl hSp1 (ROr2 A B hBs lx ly HX HY X Y cx cy _ (hX0.cl hSp1) (hY0.cl hSp1)) ?_
    intro Ap2 cp2 wp2 hRp2 hSp2
    simp only [Act.put, List.setIfInBounds_toArray, List.set_cons_zero, List.set_cons_succ]
    refine h_callv 6 ({ dst := some 39, op := Op.call { callee := Callee.value (Operand.func 12), args := #[Operand.tmp 35, Operand.tmp 38], argTypes := #[27, 30] }, type := 4, pos := "law.go:64", after := #[{ on := 2, ground := Ground.data }, { on := 5, ground := Ground.data }, { on := 5, ground := Ground.chain }], guard := none } : Oper) (args := #[.agg (ofF (wd (A ||| B))), .agg #[.slice Ap2 (els (A ||| B) 4096).length cp2]]) (v := .bool true) own12 rfl rfl (by kernel_rfl) rfl rfl hSp2 (RAlike (A ||| B) _ (Lib.hid rfl) Ap2 cp2 _ (HT.out _ (Cl.trans (w := w) hB hSp2)) hRp2) ?_
    intro wp3 hbp3 hSp3
    simp only [Act.put, List.setIfInBounds_toArray, List.set_cons_zero, List.set_cons_succ]
    refine h_pure 7 ({ dst := some 11, op := Op.assign (Operand.tmp 39), type := 4, pos := "law.go:64", after := #[{ on := 6, ground := Ground.data }, { on := 6, ground := Ground.chain }, { on := 0, ground := Ground.phase }, { on := 1, ground := Ground.phase }, { on := 2, ground := Ground.phase }, { on := 3, ground := Ground.phase }, { on := 4, ground := Ground.phase }, { on := 5, ground := Ground.phase }, { on := 6, ground := Ground.phase }], guard := none } : Oper) (.bool true) (by kernel_rfl) rfl (by kernel_rfl) (by kernel_rfl) (fun _ _ _ h => h) rfl (y_assign rfl rfl) hSp3 ?_
    simp only [Act.put, List.setIfInBounds_toArray, List.set_cons_zero, List.set_cons_succ]
    refine wpAnyH_done (by kernel_rfl) ?_ _
    go_upto_region 10 with fail
    refine h_regionC hSp3 ?_
    intro hSq0
    refine h_pure 0 ({ dst := some 40, op := Op.load 27 (Operand.tmp 7), type := 27, pos := "law.go:65", after := #[], guard := none } : Oper) (.agg (ofF (wd A))) (by kernel_rfl) rfl (by kernel_rfl) (by kernel_rfl) (fun _ _ _ h => h) rfl (y_load (g := g7) (f := wd A) rfl rfl (load_blk b7 l7)) hSq0 ?_
    simp only [Act.put, List.setIfInBounds_toArray, List.set_cons_zero, List.set_cons_succ]
    refine h_pure 1 ({ dst := some 41, op := Op.load 27 (Operand.tmp 8), type := 27, pos := "law.go:65", after := #[], guard := none } : Oper) (.agg (ofF (wd B))) (by kernel_rfl) rfl (by kernel_rfl) (by kernel_rfl) (fun _ _ _ h => h) rfl (y_load (g := g8) (f := wd B) rfl rfl (load_blk b8 l8)) hSq0 ?_
    simp only [Act.put, List.setIfInBounds_toArray, List.set_cons_zero, List.set_cons_succ]
    refine h_pure 3 ({ dst := some 43, op := Op.load 30 (Operand.tmp 9), type := 30, pos := "law.go:65", after := #[], guard := none } : Oper) (.agg #[.slice X lx.length cx]) (by kernel_rfl) rfl (by kernel_rfl) (by kernel_rfl) (fun _ _ _ h => h) rfl (y_load30 (g := g9) rfl rfl (b9.bel b9.lt)) hSq0 ?_
    simp only [Act.put, List.setIfInBounds_toArray, List.set_cons_zero, List.set_cons_succ]
    refine h_pure 4 ({ dst := some 44, op := Op.load 30 (Operand.tmp 10), type := 30, pos := "law.go:65", after := #[], guard := none } : Oper) (.agg #[.slice Y ly.length cy]) (by kernel_rfl) rfl (by kernel_rfl) (by kernel_rfl) (fun _ _ _ h => h) rfl (y_load30 (g := g10) rfl rfl (b10.bel b10.lt)) hSq0 ?_
    simp only [Act.put, List.setIfInBounds_toArray, List.set_cons_zero, List.set_cons_succ]
    refine h_callv 2 ({ dst := some 42, op := Op.call { callee := Callee.value (Operand.func 26), args := #[Operand.tmp 40, Operand.tmp 41], argTypes := #[27, 27] }, type := 27, pos := "law.go:65", after := #[{ on := 0, ground := Ground.data }, { on := 1, ground := Ground.data }], guard := none } : Oper) (args := #[.agg (ofF (wd A)), .agg (ofF (wd B))]) (v := .agg (ofF (wd (A &&& B)))) own26 rfl rfl (by kernel_rfl) rfl rfl hSq0 (And A B _) ?_
    intro wq1 hbq1 hSq1
    simp only [Act.put, List.setIfInBounds_toArray, List.set_cons_zero, List.set_cons_succ]
    refine h_callR 5 ({ dst := some 45, op := Op.call { callee := Callee.value (Operand.func 27), args := #[Operand.tmp 43, Operand.tmp 44], argTypes := #[30, 30] }, type := 30, pos := "law.go:65", after := #[{ on := 3, ground := Ground.data }, { on := 4, ground := Ground.data }, { on := 2, ground := Ground.chain }], guard := none } : Oper) (args := #[.agg #[.slice X lx.length cx], .agg #[.slice Y ly.length cy]]) (l := els (A &&& B) 4096) own27 rfl rfl (by kernel_rfl) rfl rfl hSq1 (RAnd A B lx ly HX HY X Y cx cy _ (hX0.cl hSq1) (hY0.cl hSq1)) ?_
    intro Aq2 cq2 wq2 hRq2 hSq2
    simp only [Act.put, List.setIfInBounds_toArray, List.set_cons_zero, List.set_cons_succ]
    refine h_callv 6 ({ dst := some 46, op := Op.call { callee := Callee.value (Operand.func 12), args := #[Operand.tmp 42, Operand.tmp 45], argTypes := #[27, 30] }, type := 4, pos := "law.go:65", after := #[{ on := 2, ground := Ground.data }, { on := 5, ground := Ground.data }, { on := 5, ground := Ground.chain }], guard := none } : Oper) (args := #[.agg (ofF (wd (A &&& B))), .agg #[.slice Aq2 (els (A &&& B) 4096).length cq2]]) (v := .bool true) own12 rfl rfl (by kernel_rfl) rfl rfl hSq2 (RAlike (A &&& B) _ (Lib.hid rfl) Aq2 cq2 _ (HT.out _ (Cl.trans (w := w) hB hSq2)) hRq2) ?_
    intro wq3 hbq3 hSq3
    simp only [Act.put, List.setIfInBounds_toArray, List.set_cons_zero, List.set_cons_succ]
    refine h_pure 7 ({ dst := some 12, op := Op.assign (Operand.tmp 46), type := 4, pos := "law.go:65", after := #[{ on := 6, ground := Ground.data }, { on := 6, ground := Ground.chain }, { on := 0, ground := Ground.phase }, { on := 1, ground := Ground.phase }, { on := 2, ground := Ground.phase }, { on := 3, ground := Ground.phase }, { on := 4, ground := Ground.phase }, { on := 5, ground := Ground.phase }, { on := 6, ground := Ground.phase }], guard := none } : Oper) (.bool true) (by kernel_rfl) rfl (by kernel_rfl) (by kernel_rfl) (fun _ _ _ h => h) rfl (y_assign rfl rfl) hSq3 ?_
    simp only [Act.put, List.setIfInBounds_toArray, List.set_cons_zero, List.set_cons_succ]
    refine wpAnyH_done (by kernel_rfl) ?_ _
    go_upto_region 11 with fail
    refine h_regionC hSq3 ?_
    intro hSr0
    refine h_pure 0 ({ dst := some 47, op := Op.load 27 (Operand.tmp 7), type := 27, pos := "law.go:66", after := #[], guard := none } : Oper) (.agg (ofF (wd A))) (by kernel_rfl) rfl (by kernel_rfl) (by kernel_rfl) (fun _ _ _ h => h) rfl (y_load (g := g7) (f := wd A) rfl rfl (load_blk b7 l7)) hSr0 ?_
    simp only [Act.put, List.setIfInBounds_toArray, List.set_cons_zero, List.set_cons_succ]
    refine h_pure 1 ({ dst := some 48, op := Op.load 27 (Operand.tmp 8), type := 27, pos := "law.go:66", after := #[], guard := none } : Oper) (.agg (ofF (wd B))) (by kernel_rfl) rfl (by kernel_rfl) (by kernel_rfl) (fun _ _ _ h => h) rfl (y_load (g := g8) (f := wd B) rfl rfl (load_blk b8 l8)) hSr0 ?_
    simp only [Act.put, List.setIfInBounds_toArray, List.set_cons_zero, List.set_cons_succ]
    refine h_pure 3 ({ dst := some 50, op := Op.load 30 (Operand.tmp 9), type := 30, pos := "law.go:66", after := #[], guard := none } : Oper) (.agg #[.slice X lx.length cx]) (by kernel_rfl) rfl (by kernel_rfl) (by kernel_rfl) (fun _ _ _ h => h) rfl (y_load30 (g := g9) rfl rfl (b9.bel b9.lt)) hSr0 ?_
    simp only [Act.put, List.setIfInBounds_toArray, List.set_cons_zero, List.set_cons_succ]
    refine h_pure 4 ({ dst := some 51, op := Op.load 30 (Operand.tmp 10), type := 30, pos := "law.go:66", after := #[], guard := none } : Oper) (.agg #[.slice Y ly.length cy]) (by kernel_rfl) rfl (by kernel_rfl) (by kernel_rfl) (fun _ _ _ h => h) rfl (y_load30 (g := g10) rfl rfl (b10.bel b10.lt)) hSr0 ?_
    simp only [Act.put, List.setIfInBounds_toArray, List.set_cons_zero, List.set_cons_succ]
    refine h_callv 2 ({ dst := some 49, op := Op.call { callee := Callee.value (Operand.func 28), args := #[Operand.tmp 47, Operand.tmp 48], argTypes := #[27, 27] }, type := 27, pos := "law.go:66", after := #[{ on := 0, ground := Ground.data }, { on := 1, ground := Ground.data }], guard := none } : Oper) (args := #[.agg (ofF (wd A)), .agg (ofF (wd B))]) (v := .agg (ofF (wd (minus A B)))) own28 rfl rfl (by kernel_rfl) rfl rfl hSr0 (Minus A B _) ?_
    intro wr1 hbr1 hSr1
    simp only [Act.put, List.setIfInBounds_toArray, List.set_cons_zero, List.set_cons_succ]
    refine h_callR 5 ({ dst := some 52, op := Op.call { callee := Callee.value (Operand.func 29), args := #[Operand.tmp 50, Operand.tmp 51], argTypes := #[30, 30] }, type := 30, pos := "law.go:66", after := #[{ on := 3, ground := Ground.data }, { on := 4, ground := Ground.data }, { on := 2, ground := Ground.chain }], guard := none } : Oper) (args := #[.agg #[.slice X lx.length cx], .agg #[.slice Y ly.length cy]]) (l := els (minus A B) 4096) own29 rfl rfl (by kernel_rfl) rfl rfl hSr1 (RMinus A B lx ly HX HY X Y cx cy _ (hX0.cl hSr1) (hY0.cl hSr1)) ?_
    intro Ar2 cr2 wr2 hRr2 hSr2
    simp only [Act.put, List.setIfInBounds_toArray, List.set_cons_zero, List.set_cons_succ]
    refine h_callv 6 ({ dst := some 53, op := Op.call { callee := Callee.value (Operand.func 12), args := #[Operand.tmp 49, Operand.tmp 52], argTypes := #[27, 30] }, type := 4, pos := "law.go:66", after := #[{ on := 2, ground := Ground.data }, { on := 5, ground := Ground.data }, { on := 5, ground := Ground.chain }], guard := none } : Oper) (args := #[.agg (ofF (wd (minus A B))), .agg #[.slice Ar2 (els (minus A B) 4096).length cr2]]) (v := .bool true) own12 rfl rfl (by kernel_rfl) rfl rfl hSr2 (RAlike (minus A B) _ (Lib.hid rfl) Ar2 cr2 _ (HT.out _ (Cl.trans (w := w) hB hSr2)) hRr2) ?_
    intro wr3 hbr3 hSr3
    simp only [Act.put, List.setIfInBounds_toArray, List.set_cons_zero, List.set_cons_succ]
    refine h_pure 7 ({ dst := some 13, op := Op.assign (Operand.tmp 53), type := 4, pos := "law.go:66", after := #[{ on := 6, ground := Ground.data }, { on := 6, ground := Ground.chain }, { on := 0, ground := Ground.phase }, { on := 1, ground := Ground.phase }, { on := 2, ground := Ground.phase }, { on := 3, ground := Ground.phase }, { on := 4, ground := Ground.phase }, { on := 5, ground := Ground.phase }, { on := 6, ground := Ground.phase }], guard := none } : Oper) (.bool true) (by kernel_rfl) rfl (by kernel_rfl) (by kernel_rfl) (fun _ _ _ h => h) rfl (y_assign rfl rfl) hSr3 ?_
    simp only [Act.put, List.setIfInBounds_toArray, List.set_cons_zero, List.set_cons_succ]
    refine wpAnyH_done (by kernel_rfl) ?_ _
    go_upto_region 12 with fail
    refine h_regionC hSr3 ?_
    intro hSs0
    refine h_pure 0 ({ dst := some 54, op := Op.move (Operand.tmp 11), type := 4, pos := "law.go:67", after := #[], guard := none } : Oper) (.bool true) (by kernel_rfl) rfl (by kernel_rfl) (by kernel_rfl) (fun _ _ _ h => h) rfl (y_move rfl rfl) hSs0 ?_
    simp only [Act.put, List.setIfInBounds_toArray, List.set_cons_zero, List.set_cons_succ]
    refine h_pure 1 ({ dst := some 55, op := Op.move (Operand.tmp 54), type := 4, pos := "law.go:67", after := #[{ on := 0, ground := Ground.data }], guard := none } : Oper) (.bool true) (by kernel_rfl) rfl (by kernel_rfl) (by kernel_rfl) (fun _ _ _ h => h) rfl (y_move rfl rfl) hSs0 ?_
    simp only [Act.put, List.setIfInBounds_toArray, List.set_cons_zero, List.set_cons_succ]
    refine h_pure 2 ({ dst := some 56, op := Op.move (Operand.tmp 12), type := 4, pos := "law.go:67", after := #[{ on := 1, ground := Ground.guard }], guard := some (1, true) } : Oper) (.bool true) (by kernel_rfl) rfl (by kernel_rfl) (by kernel_rfl) (fun _ _ _ h => h) rfl (y_move rfl rfl) hSs0 ?_
    simp only [Act.put, List.setIfInBounds_toArray, List.set_cons_zero, List.set_cons_succ]
    refine h_pure 3 ({ dst := some 57, op := Op.pick (Operand.tmp 55) (Operand.tmp 56) (Operand.const (Value.bool false)), type := 4, pos := "law.go:67", after := #[{ on := 1, ground := Ground.data }, { on := 2, ground := Ground.data }], guard := none } : Oper) (.bool true) (by kernel_rfl) rfl (by kernel_rfl) (by kernel_rfl) (fun _ _ _ h => h) rfl (y_pick rfl rfl rfl) hSs0 ?_
    simp only [Act.put, List.setIfInBounds_toArray, List.set_cons_zero, List.set_cons_succ]
    refine h_pure 4 ({ dst := some 58, op := Op.move (Operand.tmp 57), type := 4, pos := "law.go:67", after := #[{ on := 3, ground := Ground.data }, { on := 1, ground := Ground.chain }], guard := none } : Oper) (.bool true) (by kernel_rfl) rfl (by kernel_rfl) (by kernel_rfl) (fun _ _ _ h => h) rfl (y_move rfl rfl) hSs0 ?_
    simp only [Act.put, List.setIfInBounds_toArray, List.set_cons_zero, List.set_cons_succ]
    refine h_pure 5 ({ dst := some 59, op := Op.move (Operand.tmp 13), type := 4, pos := "law.go:67", after := #[{ on := 4, ground := Ground.guard }], guard := some (4, true) } : Oper) (.bool true) (by kernel_rfl) rfl (by kernel_rfl) (by kernel_rfl) (fun _ _ _ h => h) rfl (y_move rfl rfl) hSs0 ?_
    simp only [Act.put, List.setIfInBounds_toArray, List.set_cons_zero, List.set_cons_succ]
    refine h_pure 6 ({ dst := some 60, op := Op.pick (Operand.tmp 58) (Operand.tmp 59) (Operand.const (Value.bool false)), type := 4, pos := "law.go:67", after := #[{ on := 4, ground := Ground.data }, { on := 5, ground := Ground.data }], guard := none } : Oper) (.bool true) (by kernel_rfl) rfl (by kernel_rfl) (by kernel_rfl) (fun _ _ _ h => h) rfl (y_pick rfl rfl rfl) hSs0 ?_
    simp only [Act.put, List.setIfInBounds_toArray, List.set_cons_zero, List.set_cons_succ]
    refine h_pure 7 ({ dst := some 61, op := Op.move (Operand.tmp 60), type := 4, pos := "law.go:67", after := #[{ on := 6, ground := Ground.data }, { on := 4, ground := Ground.chain }], guard := none } : Oper) (.bool true) (by kernel_rfl) rfl (by kernel_rfl) (by kernel_rfl) (fun _ _ _ h => h) rfl (y_move rfl rfl) hSs0 ?_
    simp only [Act.put, List.setIfInBounds_toArray, List.set_cons_zero, List.set_cons_succ]
    refine h_pure 8 ({ dst := some 62, op := Op.load 27 (Operand.tmp 7), type := 27, pos := "law.go:67", after := #[{ on := 7, ground := Ground.guard }], guard := some (7, true) } : Oper) (.agg (ofF (wd A))) (by kernel_rfl) rfl (by kernel_rfl) (by kernel_rfl) (fun _ _ _ h => h) rfl (y_load (g := g7) (f := wd A) rfl rfl (load_blk b7 l7)) hSs0 ?_
    simp only [Act.put, List.setIfInBounds_toArray, List.set_cons_zero, List.set_cons_succ]
    refine h_pure 9 ({ dst := some 63, op := Op.load 27 (Operand.tmp 8), type := 27, pos := "law.go:67", after := #[{ on := 7, ground := Ground.guard }], guard := some (7, true) } : Oper) (.agg (ofF (wd B))) (by kernel_rfl) rfl (by kernel_rfl) (by kernel_rfl) (fun _ _ _ h => h) rfl (y_load (g := g8) (f := wd B) rfl rfl (load_blk b8 l8)) hSs0 ?_
    simp only [Act.put, List.setIfInBounds_toArray, List.set_cons_zero, List.set_cons_succ]
    refine h_pure 11 ({ dst := some 65, op := Op.load 30 (Operand.tmp 9), type := 30, pos := "law.go:67", after := #[{ on := 7, ground := Ground.guard }], guard := some (7, true) } : Oper) (.agg #[.slice X lx.length cx]) (by kernel_rfl) rfl (by kernel_rfl) (by kernel_rfl) (fun _ _ _ h => h) rfl (y_load30 (g := g9) rfl rfl (b9.bel b9.lt)) hSs0 ?_
    simp only [Act.put, List.setIfInBounds_toArray, List.set_cons_zero, List.set_cons_succ]
    refine h_pure 12 ({ dst := some 66, op := Op.load 30 (Operand.tmp 10), type := 30, pos := "law.go:67", after := #[{ on := 7, ground := Ground.guard }], guard := some (7, true) } : Oper) (.agg #[.slice Y ly.length cy]) (by kernel_rfl) rfl (by kernel_rfl) (by kernel_rfl) (fun _ _ _ h => h) rfl (y_load30 (g := g10) rfl rfl (b10.bel b10.lt)) hSs0 ?_
    simp only [Act.put, List.setIfInBounds_toArray, List.set_cons_zero, List.set_cons_succ]
    refine h_callv 10 ({ dst := some 64, op := Op.call { callee := Callee.value (Operand.func 30), args := #[Operand.tmp 62, Operand.tmp 63], argTypes := #[27, 27] }, type := 4, pos := "law.go:67", after := #[{ on := 8, ground := Ground.data }, { on := 9, ground := Ground.data }, { on := 7, ground := Ground.chain }, { on := 7, ground := Ground.guard }], guard := some (7, true) } : Oper) (args := #[.agg (ofF (wd A)), .agg (ofF (wd B))]) (v := .bool (sameB A B)) own30 rfl rfl (by kernel_rfl) rfl rfl hSs0 (Same A B hA hBs _) ?_
    intro ws1 hbs1 hSs1
    simp only [Act.put, List.setIfInBounds_toArray, List.set_cons_zero, List.set_cons_succ]
    refine h_callv 13 ({ dst := some 67, op := Op.call { callee := Callee.value (Operand.func 31), args := #[Operand.tmp 65, Operand.tmp 66], argTypes := #[30, 30] }, type := 4, pos := "law.go:67", after := #[{ on := 11, ground := Ground.data }, { on := 12, ground := Ground.data }, { on := 10, ground := Ground.chain }, { on := 7, ground := Ground.guard }], guard := some (7, true) } : Oper) (args := #[.agg #[.slice X lx.length cx], .agg #[.slice Y ly.length cy]]) (v := .bool (sameB A B)) own31 rfl rfl (by kernel_rfl) rfl rfl hSs1 (RSame A B hA hBs lx ly HX HY X Y cx cy _ (hX0.cl hSs1) (hY0.cl hSs1)) ?_
    intro ws2 hbs2 hSs2
    simp only [Act.put, List.setIfInBounds_toArray, List.set_cons_zero, List.set_cons_succ]
    refine h_pure 14 ({ dst := some 68, op := Op.binOp BinOp.eql 4 (Operand.tmp 64) (Operand.tmp 67) 4, type := 4, pos := "law.go:67", after := #[{ on := 10, ground := Ground.data }, { on := 13, ground := Ground.data }, { on := 7, ground := Ground.guard }], guard := some (7, true) } : Oper) (.bool true) (by kernel_rfl) rfl (by kernel_rfl) (by kernel_rfl) (fun _ _ _ h => h) rfl (y_eqlB rfl rfl rfl (by simp)) hSs2 ?_
    simp only [Act.put, List.setIfInBounds_toArray, List.set_cons_zero, List.set_cons_succ]
    refine h_pure 15 ({ dst := some 69, op := Op.pick (Operand.tmp 61) (Operand.tmp 68) (Operand.const (Value.bool false)), type := 4, pos := "law.go:67", after := #[{ on := 7, ground := Ground.data }, { on := 14, ground := Ground.data }], guard := none } : Oper) (.bool true) (by kernel_rfl) rfl (by kernel_rfl) (by kernel_rfl) (fun _ _ _ h => h) rfl (y_pick rfl rfl rfl) hSs2 ?_
    simp only [Act.put, List.setIfInBounds_toArray, List.set_cons_zero, List.set_cons_succ]
    refine h_pure 16 ({ dst := some 70, op := Op.move (Operand.tmp 69), type := 4, pos := "law.go:67", after := #[{ on := 15, ground := Ground.data }, { on := 13, ground := Ground.chain }], guard := none } : Oper) (.bool true) (by kernel_rfl) rfl (by kernel_rfl) (by kernel_rfl) (fun _ _ _ h => h) rfl (y_move rfl rfl) hSs2 ?_
    simp only [Act.put, List.setIfInBounds_toArray, List.set_cons_zero, List.set_cons_succ]
    refine h_pure 17 ({ dst := some 71, op := Op.load 27 (Operand.tmp 7), type := 27, pos := "law.go:67", after := #[{ on := 16, ground := Ground.guard }], guard := some (16, true) } : Oper) (.agg (ofF (wd A))) (by kernel_rfl) rfl (by kernel_rfl) (by kernel_rfl) (fun _ _ _ h => h) rfl (y_load (g := g7) (f := wd A) rfl rfl (load_blk b7 l7)) hSs2 ?_
    simp only [Act.put, List.setIfInBounds_toArray, List.set_cons_zero, List.set_cons_succ]
    refine h_pure 18 ({ dst := some 72, op := Op.load 27 (Operand.tmp 8), type := 27, pos := "law.go:67", after := #[{ on := 16, ground := Ground.guard }], guard := some (16, true) } : Oper) (.agg (ofF (wd B))) (by kernel_rfl) rfl (by kernel_rfl) (by kernel_rfl) (fun _ _ _ h => h) rfl (y_load (g := g8) (f := wd B) rfl rfl (load_blk b8 l8)) hSs2 ?_
    simp only [Act.put, List.setIfInBounds_toArray, List.set_cons_zero, List.set_cons_succ]
    refine h_pure 20 ({ dst := some 74, op := Op.load 30 (Operand.tmp 9), type := 30, pos := "law.go:67", after := #[{ on := 16, ground := Ground.guard }], guard := some (16, true) } : Oper) (.agg #[.slice X lx.length cx]) (by kernel_rfl) rfl (by kernel_rfl) (by kernel_rfl) (fun _ _ _ h => h) rfl (y_load30 (g := g9) rfl rfl (b9.bel b9.lt)) hSs2 ?_
    simp only [Act.put, List.setIfInBounds_toArray, List.set_cons_zero, List.set_cons_succ]
    refine h_pure 21 ({ dst := some 75, op := Op.load 30 (Operand.tmp 10), type := 30, pos := "law.go:67", after := #[{ on := 16, ground := Ground.guard }], guard := some (16, true) } : Oper) (.agg #[.slice Y ly.length cy]) (by kernel_rfl) rfl (by kernel_rfl) (by kernel_rfl) (fun _ _ _ h => h) rfl (y_load30 (g := g10) rfl rfl (b10.bel b10.lt)) hSs2 ?_
    simp only [Act.put, List.setIfInBounds_toArray, List.set_cons_zero, List.set_cons_succ]
    refine h_callv 19 ({ dst := some 73, op := Op.call { callee := Callee.value (Operand.func 32), args := #[Operand.tmp 71, Operand.tmp 72], argTypes := #[27, 27] }, type := 4, pos := "law.go:67", after := #[{ on := 17, ground := Ground.data }, { on := 18, ground := Ground.data }, { on := 16, ground := Ground.chain }, { on := 16, ground := Ground.guard }], guard := some (16, true) } : Oper) (args := #[.agg (ofF (wd A)), .agg (ofF (wd B))]) (v := .bool (withinB A B)) own32 rfl rfl (by kernel_rfl) rfl rfl hSs2 (Within A B hA hBs _) ?_
    intro ws3 hbs3 hSs3
    simp only [Act.put, List.setIfInBounds_toArray, List.set_cons_zero, List.set_cons_succ]
    refine h_callv 22 ({ dst := some 76, op := Op.call { callee := Callee.value (Operand.func 33), args := #[Operand.tmp 74, Operand.tmp 75], argTypes := #[30, 30] }, type := 4, pos := "law.go:67", after := #[{ on := 20, ground := Ground.data }, { on := 21, ground := Ground.data }, { on := 19, ground := Ground.chain }, { on := 16, ground := Ground.guard }], guard := some (16, true) } : Oper) (args := #[.agg #[.slice X lx.length cx], .agg #[.slice Y ly.length cy]]) (v := .bool (withinB A B)) own33 rfl rfl (by kernel_rfl) rfl rfl hSs3 (RWithin A B hA lx ly HX HY X Y cx cy _ (hX0.cl hSs3) (hY0.cl hSs3)) ?_
    intro ws4 hbs4 hSs4
    simp only [Act.put, List.setIfInBounds_toArray, List.set_cons_zero, List.set_cons_succ]
    refine h_pure 23 ({ dst := some 77, op := Op.binOp BinOp.eql 4 (Operand.tmp 73) (Operand.tmp 76) 4, type := 4, pos := "law.go:67", after := #[{ on := 19, ground := Ground.data }, { on := 22, ground := Ground.data }, { on := 16, ground := Ground.guard }], guard := some (16, true) } : Oper) (.bool true) (by kernel_rfl) rfl (by kernel_rfl) (by kernel_rfl) (fun _ _ _ h => h) rfl (y_eqlB rfl rfl rfl (by simp)) hSs4 ?_
    simp only [Act.put, List.setIfInBounds_toArray, List.set_cons_zero, List.set_cons_succ]
    refine h_pure 24 ({ dst := some 78, op := Op.pick (Operand.tmp 70) (Operand.tmp 77) (Operand.const (Value.bool false)), type := 4, pos := "law.go:67", after := #[{ on := 16, ground := Ground.data }, { on := 23, ground := Ground.data }], guard := none } : Oper) (.bool true) (by kernel_rfl) rfl (by kernel_rfl) (by kernel_rfl) (fun _ _ _ h => h) rfl (y_pick rfl rfl rfl) hSs4 ?_
    simp only [Act.put, List.setIfInBounds_toArray, List.set_cons_zero, List.set_cons_succ]
    refine h_pure 25 ({ dst := some 4, op := Op.assign (Operand.tmp 78), type := 4, pos := "law.go:67", after := #[{ on := 24, ground := Ground.data }, { on := 22, ground := Ground.chain }, { on := 0, ground := Ground.phase }, { on := 1, ground := Ground.phase }, { on := 2, ground := Ground.phase }, { on := 3, ground := Ground.phase }, { on := 4, ground := Ground.phase }, { on := 5, ground := Ground.phase }, { on := 6, ground := Ground.phase }, { on := 7, ground := Ground.phase }, { on := 8, ground := Ground.phase }, { on := 9, ground := Ground.phase }, { on := 10, ground := Ground.phase }, { on := 11, ground := Ground.phase }, { on := 12, ground := Ground.phase }, { on := 13, ground := Ground.phase }, { on := 14, ground := Ground.phase }, { on := 15, ground := Ground.phase }, { on := 16, ground := Ground.phase }, { on := 17, ground := Ground.phase }, { on := 18, ground := Ground.phase }, { on := 19, ground := Ground.phase }, { on := 20, ground := Ground.phase }, { on := 21, ground := Ground.phase }, { on := 22, ground := Ground.phase }, { on := 23, ground := Ground.phase }, { on := 24, ground := Ground.phase }], guard := none } : Oper) (.bool true) (by kernel_rfl) rfl (by kernel_rfl) (by kernel_rfl) (fun _ _ _ h => h) rfl (y_assign rfl rfl) hSs4 ?_
    simp only [Act.put, List.setIfInBounds_toArray, List.set_cons_zero, List.set_cons_succ]
    refine wpAnyH_done (by kernel_rfl) ?_ _
    have hB9 : Below w.heap.size w _ := Cl.trans (w := w) hB hSs4
    go_wp2
    go_ret
    exact ⟨rfl, hB9⟩
end Go.Proofs.YtabdhmfjbielaaaDoor
