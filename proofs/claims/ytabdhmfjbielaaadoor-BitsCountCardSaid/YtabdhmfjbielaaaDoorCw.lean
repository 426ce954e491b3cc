/- PROVED here: the law BitsCount returns true at any two lists, where the library's tables are as its text lays them. No condition but those in each theorem's own head. -/
import Derived.Test.YtabdhmfjbielaaaDoorV
import Derived.Test.YtabdhmfjbielaaaDoorCn
import Derived.Test.YtabdhmfjbielaaaDoorTt
namespace Go.Proofs.YtabdhmfjbielaaaDoor
open Go Go.RowKit

theorem tx_inj {a b : List UInt8} (h : tx a = tx b) : a = b := by
  have := congrArg (·.data.toList) h
  simpa [tx] using this
theorem run_eqlS (s t : List UInt8) (w : World) : (binOp .eql 9 (.string (tx s)) (.string (tx t))).run Tryd.prog w = .ok (.bool (decide (s = t))) w := by
  have e : ((tx s).toList == (tx t).toList) = decide (s = t) := by
    have h : ∀ l : List UInt8, (tx l).toList = l := fun l => by rw [ByteArray.toList_eq]; simp [tx]
    rw [h, h, Bool.eq_iff_iff]; simp
  rw [binOp_string_eql, e]; rfl
theorem q_eqlS {ops : Array Oper} {C : World → Prop} {Q : Act → Prop} {rest : List Oper} {d : Option Tmp} {ty : TypeId} {p : String} {af : Array Edge} {gd : Option (Nat × Bool)} {a : Act} {x y : Operand} {s t : List UInt8}
    (hw : Region.wanted ⟨d, .binOp .eql 9 x y 9, ty, p, af, gd⟩ (yielded ops a.tmps) = true) (hx : a.eval x = .string (tx s)) (hy : a.eval y = .string (tx t))
    (h : wpQuiet Tryd.prog ops C Q rest (a.put d (.bool (decide (s = t))))) : wpQuiet Tryd.prog ops C Q (⟨d, .binOp .eql 9 x y 9, ty, p, af, gd⟩ :: rest) a :=
  q_bin hw hx hy (fun w => by rw [eqGuard_at_string]; rfl) (fun w => run_eqlS s t w) h
theorem same_text {a b : Nat} (ha : Small a) (hb : Small b) : sameB a b = decide (textF a = textF b) := by
  unfold sameB
  rw [Bool.eq_iff_iff, decide_eq_true_eq, decide_eq_true_eq]
  exact ⟨fun h => by rw [h], fun h => text_inj ha hb h⟩

set_option maxRecDepth 100000 in
set_option maxHeartbeats 8000000 in
theorem bitsCount_any (P1 P2 : Option Addr) (c1 c2 : Nat) (l1 l2 : List Int) (w : World) (hT : Tabs w) (hi1 : Ints w P1 l1) (hi2 : Ints w P2 l2) :
    Calls Tryd.prog 7 #[.slice P1 l1.length c1, .slice P2 l2.length c2] w fun e w' => e = .returned (.bool true) ∧ Below w.heap.size w w' := by
  have HT := Lib.hid (fun w' (hb : Below w.heap.size w w') => hT.below hb)
  have HI1 := Lib.hid hi1
  have HI2 := Lib.hid hi2
  clear hT hi1 hi2
  cases hs : shortB l1.length l2.length 0 with
  | false =>
    have S0 := fun w => short_any P1 P2 none l1.length l2.length 0 c1 c2 0 w
    rw [hs] at S0
    have S1 := Lib.hid S0
    clear hs S0
    go_enter Tryd.func7, Tryd.ntmps7
    go_wp2_with (first
      | (go_at_call 9; refine (shown _ HT).mono ?_; rintro e w1 ⟨rfl, hb1⟩)
      | (go_at_call 23; refine (S1.out _).mono ?_; rintro e w2 ⟨rfl, rfl⟩))
    go_ret
    exact ⟨rfl, hb1⟩
  | true =>
    have hlen : l1.length ≤ 300 ∧ l2.length ≤ 300 := by
      simpa [shortB] using hs
    obtain ⟨hl1, hl2⟩ := hlen
    have S0 := fun w => short_any P1 P2 none l1.length l2.length 0 c1 c2 0 w
    rw [hs] at S0
    have S1 := Lib.hid S0
    clear hs S0
    go_enter Tryd.func7, Tryd.ntmps7
    go_upto_region 5 with (first
      | (go_at_call 9; refine (shown _ HT).mono ?_; rintro e w1 ⟨rfl, hb1⟩)
      | (go_at_call 23; refine (S1.out _).mono ?_; rintro e w2 ⟨rfl, rfl⟩))
    go_upto_region 6 with (first
      | (go_at_call 10; refine (Of P1 c1 l1 _ (by omega) (HI1.out.below hb1)).mono ?_; rintro e w3 ⟨rfl, hb3⟩)
      | ((with_reducible apply alloc_store); (exact rfl); (exact rfl); intro w4 hb4 l7' b7'; simp only [Act.put, List.setIfInBounds_toArray, List.set_cons_zero, List.set_cons_succ]))
    have hB4 : Below w.heap.size w w4 := bt hb1 (bt hb3 hb4)
    generalize w3.heap.size = g7 at *
    clear hb1 hb3 hb4
    go_upto_region 7 with (first
      | (go_at_call 10; refine (Of P2 c2 l2 _ (by omega) (HI2.out.below hB4)).mono ?_; rintro e w5 ⟨rfl, hb5⟩)
      | ((with_reducible apply alloc_store); (exact rfl); (exact rfl); intro w6 hb6 l8 b8; simp only [Act.put, List.setIfInBounds_toArray, List.set_cons_zero, List.set_cons_succ]))
    have hB6 : Below w.heap.size w w6 := bt hB4 (bt hb5 hb6)
    have b7 := blk_below b7' l7' (bt hb5 hb6)
    have l7 := Nat.lt_of_lt_of_le l7' (bt hb5 hb6).size
    generalize w5.heap.size = g8 at *
    clear hb5 hb6 hB4 b7' l7'
    have hA := small_ofL l1
    have hB := small_ofL l2
    generalize ofL l1 = A at *
    generalize ofL l2 = B at *
    clear HI1 HI2 S1
    have HTc : Hid (∀ w', Cl w6 w' → Tabs w') := fun w' hc => HT.out _ (bt hB6 hc)
    refine q_region (by kernel_rfl) ?_
    refine q_load (g := g7) (f := wd A) rfl rfl (load_blk b7 l7) ?_
    simp only [Act.put, List.setIfInBounds_toArray, List.set_cons_zero, List.set_cons_succ]
    refine q_load (g := g8) (f := wd B) rfl rfl (load_blk b8 l8) ?_
    simp only [Act.put, List.setIfInBounds_toArray, List.set_cons_zero, List.set_cons_succ]
    refine q_call own24 rfl (args := #[.agg (ofF (wd A)), .agg (ofF (wd B))]) (v := .agg (ofF (wd (A ||| B)))) rfl (call_cl (Or A B)) ?_
    simp only [Act.put, List.setIfInBounds_toArray, List.set_cons_zero, List.set_cons_succ]
    refine q_call own34 rfl (args := #[.agg (ofF (wd (A ||| B)))]) (v := .int .i64 (cntK (A ||| B) 64 : Int)) rfl (call_cl (Count (A ||| B))) ?_
    simp only [Act.put, List.setIfInBounds_toArray, List.set_cons_zero, List.set_cons_succ]
    refine q_load (g := g7) (f := wd A) rfl rfl (load_blk b7 l7) ?_
    simp only [Act.put, List.setIfInBounds_toArray, List.set_cons_zero, List.set_cons_succ]
    refine q_load (g := g8) (f := wd B) rfl rfl (load_blk b8 l8) ?_
    simp only [Act.put, List.setIfInBounds_toArray, List.set_cons_zero, List.set_cons_succ]
    refine q_call own26 rfl (args := #[.agg (ofF (wd A)), .agg (ofF (wd B))]) (v := .agg (ofF (wd (A &&& B)))) rfl (call_cl (And A B)) ?_
    simp only [Act.put, List.setIfInBounds_toArray, List.set_cons_zero, List.set_cons_succ]
    refine q_call own34 rfl (args := #[.agg (ofF (wd (A &&& B)))]) (v := .int .i64 (cntK (A &&& B) 64 : Int)) rfl (call_cl (Count (A &&& B))) ?_
    simp only [Act.put, List.setIfInBounds_toArray, List.set_cons_zero, List.set_cons_succ]
    refine q_addI (u := (cntK (A ||| B) 64 : Int)) (v := (cntK (A &&& B) 64 : Int)) (r := ((cntK (A ||| B) 64 : Int) + (cntK (A &&& B) 64 : Int))) rfl rfl rfl (IntWalk.i64_in _ (by have := cntK_le A 64; have := cntK_le B 64; have := cntK_le (A ||| B) 64; have := cntK_le (A &&& B) 64; omega)) ?_
    simp only [Act.put, List.setIfInBounds_toArray, List.set_cons_zero, List.set_cons_succ]
    refine q_load (g := g7) (f := wd A) rfl rfl (load_blk b7 l7) ?_
    simp only [Act.put, List.setIfInBounds_toArray, List.set_cons_zero, List.set_cons_succ]
    refine q_call own34 rfl (args := #[.agg (ofF (wd A))]) (v := .int .i64 (cntK A 64 : Int)) rfl (call_cl (Count A)) ?_
    simp only [Act.put, List.setIfInBounds_toArray, List.set_cons_zero, List.set_cons_succ]
    refine q_load (g := g8) (f := wd B) rfl rfl (load_blk b8 l8) ?_
    simp only [Act.put, List.setIfInBounds_toArray, List.set_cons_zero, List.set_cons_succ]
    refine q_call own34 rfl (args := #[.agg (ofF (wd B))]) (v := .int .i64 (cntK B 64 : Int)) rfl (call_cl (Count B)) ?_
    simp only [Act.put, List.setIfInBounds_toArray, List.set_cons_zero, List.set_cons_succ]
    refine q_addI (u := (cntK A 64 : Int)) (v := (cntK B 64 : Int)) (r := ((cntK A 64 : Int) + (cntK B 64 : Int))) rfl rfl rfl (IntWalk.i64_in _ (by have := cntK_le A 64; have := cntK_le B 64; have := cntK_le (A ||| B) 64; have := cntK_le (A &&& B) 64; omega)) ?_
    simp only [Act.put, List.setIfInBounds_toArray, List.set_cons_zero, List.set_cons_succ]
    refine q_eqlI (u := ((cntK (A ||| B) 64 : Int) + (cntK (A &&& B) 64 : Int))) (v := ((cntK A 64 : Int) + (cntK B 64 : Int))) (b := true) rfl rfl rfl (by rw [beq_iff_eq]; have := cnt_or_and A B; omega) ?_
    simp only [Act.put, List.setIfInBounds_toArray, List.set_cons_zero, List.set_cons_succ]
    refine q_move (v := .bool true) rfl rfl ?_
    simp only [Act.put, List.setIfInBounds_toArray, List.set_cons_zero, List.set_cons_succ]
    refine q_load (g := g7) (f := wd A) rfl rfl (load_blk b7 l7) ?_
    simp only [Act.put, List.setIfInBounds_toArray, List.set_cons_zero, List.set_cons_succ]
    refine q_load (g := g8) (f := wd B) rfl rfl (load_blk b8 l8) ?_
    simp only [Act.put, List.setIfInBounds_toArray, List.set_cons_zero, List.set_cons_succ]
    refine q_call own28 rfl (args := #[.agg (ofF (wd A)), .agg (ofF (wd B))]) (v := .agg (ofF (wd (minus A B)))) rfl (call_cl (Minus A B)) ?_
    simp only [Act.put, List.setIfInBounds_toArray, List.set_cons_zero, List.set_cons_succ]
    refine q_call own34 rfl (args := #[.agg (ofF (wd (minus A B)))]) (v := .int .i64 (cntK (minus A B) 64 : Int)) rfl (call_cl (Count (minus A B))) ?_
    simp only [Act.put, List.setIfInBounds_toArray, List.set_cons_zero, List.set_cons_succ]
    refine q_load (g := g7) (f := wd A) rfl rfl (load_blk b7 l7) ?_
    simp only [Act.put, List.setIfInBounds_toArray, List.set_cons_zero, List.set_cons_succ]
    refine q_call own34 rfl (args := #[.agg (ofF (wd A))]) (v := .int .i64 (cntK A 64 : Int)) rfl (call_cl (Count A)) ?_
    simp only [Act.put, List.setIfInBounds_toArray, List.set_cons_zero, List.set_cons_succ]
    refine q_load (g := g7) (f := wd A) rfl rfl (load_blk b7 l7) ?_
    simp only [Act.put, List.setIfInBounds_toArray, List.set_cons_zero, List.set_cons_succ]
    refine q_load (g := g8) (f := wd B) rfl rfl (load_blk b8 l8) ?_
    simp only [Act.put, List.setIfInBounds_toArray, List.set_cons_zero, List.set_cons_succ]
    refine q_call own26 rfl (args := #[.agg (ofF (wd A)), .agg (ofF (wd B))]) (v := .agg (ofF (wd (A &&& B)))) rfl (call_cl (And A B)) ?_
    simp only [Act.put, List.setIfInBounds_toArray, List.set_cons_zero, List.set_cons_succ]
    refine q_call own34 rfl (args := #[.agg (ofF (wd (A &&& B)))]) (v := .int .i64 (cntK (A &&& B) 64 : Int)) rfl (call_cl (Count (A &&& B))) ?_
    simp only [Act.put, List.setIfInBounds_toArray, List.set_cons_zero, List.set_cons_succ]
    refine q_subI (u := (cntK A 64 : Int)) (v := (cntK (A &&& B) 64 : Int)) (r := ((cntK A 64 : Int) - (cntK (A &&& B) 64 : Int))) rfl rfl rfl (IntWalk.i64_in _ (by have := cntK_le A 64; have := cntK_le B 64; have := cntK_le (A ||| B) 64; have := cntK_le (A &&& B) 64; omega)) ?_
    simp only [Act.put, List.setIfInBounds_toArray, List.set_cons_zero, List.set_cons_succ]
    refine q_eqlI (u := (cntK (minus A B) 64 : Int)) (v := ((cntK A 64 : Int) - (cntK (A &&& B) 64 : Int))) (b := true) rfl rfl rfl (by rw [beq_iff_eq]; have := cnt_minus A B; omega) ?_
    simp only [Act.put, List.setIfInBounds_toArray, List.set_cons_zero, List.set_cons_succ]
    refine q_pick (v := .bool true) rfl rfl rfl ?_
    simp only [Act.put, List.setIfInBounds_toArray, List.set_cons_zero, List.set_cons_succ]
    refine q_move (v := .bool true) rfl rfl ?_
    simp only [Act.put, List.setIfInBounds_toArray, List.set_cons_zero, List.set_cons_succ]
    refine q_load (g := g7) (f := wd A) rfl rfl (load_blk b7 l7) ?_
    simp only [Act.put, List.setIfInBounds_toArray, List.set_cons_zero, List.set_cons_succ]
    refine q_call own34 rfl (args := #[.agg (ofF (wd A))]) (v := .int .i64 (cntK A 64 : Int)) rfl (call_cl (Count A)) ?_
    simp only [Act.put, List.setIfInBounds_toArray, List.set_cons_zero, List.set_cons_succ]
    refine q_eqlI (u := (cntK A 64 : Int)) (v := (0 : Int)) (b := ((cntK A 64 : Int) == (0 : Int))) rfl rfl rfl rfl ?_
    simp only [Act.put, List.setIfInBounds_toArray, List.set_cons_zero, List.set_cons_succ]
    refine q_load (g := g7) (f := wd A) rfl rfl (load_blk b7 l7) ?_
    simp only [Act.put, List.setIfInBounds_toArray, List.set_cons_zero, List.set_cons_succ]
    refine q_call own19 rfl (args := #[.agg (ofF (wd A)), .int .i64 (0 : Int)]) (v := .int .i64 (nextF A (0 : Int))) rfl (call_clT HTc (Next A (0 : Int))) ?_
    simp only [Act.put, List.setIfInBounds_toArray, List.set_cons_zero, List.set_cons_succ]
    refine q_eqlI (u := (nextF A (0 : Int))) (v := (-1)) (b := ((nextF A (0 : Int)) == (-1))) rfl rfl rfl rfl ?_
    simp only [Act.put, List.setIfInBounds_toArray, List.set_cons_zero, List.set_cons_succ]
    refine q_eqlB (u := ((cntK A 64 : Int) == (0 : Int))) (v := ((nextF A (0 : Int)) == (-1))) (b := true) rfl rfl rfl (by rw [beq_iff_eq]; exact cnt_next A) ?_
    simp only [Act.put, List.setIfInBounds_toArray, List.set_cons_zero, List.set_cons_succ]
    refine q_pick (v := .bool true) rfl rfl rfl ?_
    simp only [Act.put, List.setIfInBounds_toArray, List.set_cons_zero, List.set_cons_succ]
    refine q_move (v := .bool true) rfl rfl ?_
    simp only [Act.put, List.setIfInBounds_toArray, List.set_cons_zero, List.set_cons_succ]
    refine q_load (g := g7) (f := wd A) rfl rfl (load_blk b7 l7) ?_
    simp only [Act.put, List.setIfInBounds_toArray, List.set_cons_zero, List.set_cons_succ]
    refine q_load (g := g8) (f := wd B) rfl rfl (load_blk b8 l8) ?_
    simp only [Act.put, List.setIfInBounds_toArray, List.set_cons_zero, List.set_cons_succ]
    refine q_call own30 rfl (args := #[.agg (ofF (wd A)), .agg (ofF (wd B))]) (v := .bool (sameB A B)) rfl (call_cl (Same A B hA hB)) ?_
    simp only [Act.put, List.setIfInBounds_toArray, List.set_cons_zero, List.set_cons_succ]
    refine q_load (g := g7) (f := wd A) rfl rfl (load_blk b7 l7) ?_
    simp only [Act.put, List.setIfInBounds_toArray, List.set_cons_zero, List.set_cons_succ]
    refine q_call own21 rfl (args := #[.agg (ofF (wd A))]) (v := .string (tx (textF A))) rfl (call_clT HTc (Text A hA)) ?_
    simp only [Act.put, List.setIfInBounds_toArray, List.set_cons_zero, List.set_cons_succ]
    refine q_load (g := g8) (f := wd B) rfl rfl (load_blk b8 l8) ?_
    simp only [Act.put, List.setIfInBounds_toArray, List.set_cons_zero, List.set_cons_succ]
    refine q_call own21 rfl (args := #[.agg (ofF (wd B))]) (v := .string (tx (textF B))) rfl (call_clT HTc (Text B hB)) ?_
    simp only [Act.put, List.setIfInBounds_toArray, List.set_cons_zero, List.set_cons_succ]
    refine q_eqlS (s := textF A) (t := textF B) rfl rfl rfl ?_
    simp only [Act.put, List.setIfInBounds_toArray, List.set_cons_zero, List.set_cons_succ]
    refine q_eqlB (u := (sameB A B)) (v := (decide (textF A = textF B))) (b := true) rfl rfl rfl (by rw [beq_iff_eq]; exact same_text hA hB) ?_
    simp only [Act.put, List.setIfInBounds_toArray, List.set_cons_zero, List.set_cons_succ]
    refine q_pick (v := .bool true) rfl rfl rfl ?_
    simp only [Act.put, List.setIfInBounds_toArray, List.set_cons_zero, List.set_cons_succ]
    refine q_assign (v := .bool true) rfl rfl ?_
    simp only [Act.put, List.setIfInBounds_toArray, List.set_cons_zero, List.set_cons_succ]
    refine wpQuiet_nil ?_
    intro w9 hc9
    have hB9 : Below w.heap.size w w9 := bt hB6 hc9
    clear hc9
    go_wp2
    go_ret
    exact ⟨rfl, hB9⟩
end Go.Proofs.YtabdhmfjbielaaaDoor
