/- PROVED here: the law BitsMinus returns true at any two lists and any number, where the library's tables are as its text lays them. No condition but those in each theorem's own head. -/
import Derived.Test.YtabdhmfjbielaaaDoorHh
namespace Go.Proofs.YtabdhmfjbielaaaDoor
open Go Go.RowKit

theorem of_one (A : Option Addr) (c : Nat) (n : Int) (w : World) (hI : Ints w A [n]) : Calls Tryd.prog 10 #[.slice A 1 c] w fun e w' => e = .returned (.agg (ofF (wd (ofL [n])))) ∧ Below w.heap.size w w' := Of A c [n] w (by simp) hI
theorem mn1 (A B : Nat) : minus A B ||| (A &&& B) = A := by
  apply Nat.eq_of_testBit_eq; intro j; simp only [Nat.testBit_or, Nat.testBit_and, minus_bit]; cases A.testBit j <;> cases B.testBit j <;> rfl
theorem mn2 (A : Nat) (n : Int) : delI (addI A n) n = delI A n := by
  unfold delI addI
  split
  · apply Nat.eq_of_testBit_eq; intro j; simp only [Nat.testBit_or, minus_bit]; cases A.testBit j <;> cases (2 ^ n.toNat).testBit j <;> rfl
  · rfl
theorem ofL_one (n : Int) : ofL [n] = if 0 ≤ n ∧ n < 4096 then 2 ^ n.toNat else 0 := by
  show addI 0 n = _
  unfold addI
  split
  · simp
  · rfl
theorem mn3 (A : Nat) (n : Int) : A ||| ofL [n] = addI A n := by
  rw [ofL_one]; unfold addI
  split
  · rfl
  · simp
theorem mn4 (A : Nat) (n : Int) : minus A (ofL [n]) = delI A n := by
  rw [ofL_one]; unfold delI
  split
  · rfl
  · unfold minus; simp
theorem mn5 (A : Nat) : minus A A = 0 := by unfold minus; simp

set_option maxRecDepth 100000 in
set_option maxHeartbeats 8000000 in
theorem bitsMinus_any (P1 P2 : Option Addr) (c1 c2 : Nat) (l1 l2 : List Int) (n : Int) (w : World) (hT : Tabs w) (hi1 : Ints w P1 l1) (hi2 : Ints w P2 l2) :
    Calls Tryd.prog 8 #[.slice P1 l1.length c1, .slice P2 l2.length c2, .int .i64 n] w fun e w' => e = .returned (.bool true) ∧ Below w.heap.size w w' := by
  have HT := Lib.hid (fun w' (hb : Below w.heap.size w w') => hT.below hb)
  have HI1 := Lib.hid hi1
  have HI2 := Lib.hid hi2
  clear hT hi1 hi2
  cases hs : shortB l1.length l2.length 0 with
  | false =>
    have S0 := fun w => short_any P1 P2 none l1.length l2.length 0 c1 c2 0 w
    rw [hs] at S0
    have S1 := Lib.hid S0
    clear hs S0
    go_enter Tryd.func8, Tryd.ntmps8
    go_wp2_with (first
      | (go_at_call 9; refine (shown _ HT).mono ?_; rintro e w1 ⟨rfl, hb1⟩)
      | (go_at_call 23; refine (S1.out _).mono ?_; rintro e w2 ⟨rfl, rfl⟩))
    go_ret
    exact ⟨rfl, hb1⟩
  | true =>
    have hlen : l1.length ≤ 300 ∧ l2.length ≤ 300 := by
      simpa [shortB] using hs
    obtain ⟨hl1, hl2⟩ := hlen
    have S0 := fun w => short_any P1 P2 none l1.length l2.length 0 c1 c2 0 w
    rw [hs] at S0
    have S1 := Lib.hid S0
    clear hs S0
    go_enter Tryd.func8, Tryd.ntmps8
    go_upto_region 5 with (first
      | (go_at_call 9; refine (shown _ HT).mono ?_; rintro e w1 ⟨rfl, hb1⟩)
      | (go_at_call 23; refine (S1.out _).mono ?_; rintro e w2 ⟨rfl, rfl⟩))
    go_upto_region 6 with (first
      | (go_at_call 10; refine (Of P1 c1 l1 _ (by omega) (HI1.out.below hb1)).mono ?_; rintro e w3 ⟨rfl, hb3⟩)
      | ((with_reducible apply alloc_store); (exact rfl); (exact rfl); intro w4 hb4 l9' b9'; simp only [Act.put, List.setIfInBounds_toArray, List.set_cons_zero, List.set_cons_succ]))
    have hB4 : Below w.heap.size w w4 := bt hb1 (bt hb3 hb4)
    generalize w3.heap.size = g9 at *
    clear hb1 hb3 hb4
    go_upto_region 7 with (first
      | (go_at_call 10; refine (Of P2 c2 l2 _ (by omega) (HI2.out.below hB4)).mono ?_; rintro e w5 ⟨rfl, hb5⟩)
      | ((with_reducible apply alloc_store); (exact rfl); (exact rfl); intro w6 hb6 l10 b10; simp only [Act.put, List.setIfInBounds_toArray, List.set_cons_zero, List.set_cons_succ]))
    have hB6 : Below w.heap.size w w6 := bt hB4 (bt hb5 hb6)
    have b9 := blk_below b9' l9' (bt hb5 hb6)
    have l9 := Nat.lt_of_lt_of_le l9' (bt hb5 hb6).size
    generalize w5.heap.size = g10 at *
    clear hb5 hb6 hB4 b9' l9'
    have hA := small_ofL l1
    have hB := small_ofL l2
    generalize ofL l1 = A at *
    generalize ofL l2 = B at *
    clear HI1 HI2 S1
    refine h_region ?_
    intro hS0
    refine h_pure 0 ({ dst := some 26, op := Op.load 27 (Operand.tmp 9), type := 27, pos := "more.go:16", after := #[], guard := none } : Oper) (.agg (ofF (wd A))) (by kernel_rfl) rfl (by kernel_rfl) (by kernel_rfl) (fun _ _ _ h => h) rfl (y_load (g := g9) (f := wd A) rfl rfl (load_blk b9 l9)) hS0 ?_
    simp only [Act.put, List.setIfInBounds_toArray, List.set_cons_zero, List.set_cons_succ]
    refine h_pure 1 ({ dst := some 27, op := Op.load 27 (Operand.tmp 10), type := 27, pos := "more.go:16", after := #[], guard := none } : Oper) (.agg (ofF (wd B))) (by kernel_rfl) rfl (by kernel_rfl) (by kernel_rfl) (fun _ _ _ h => h) rfl (y_load (g := g10) (f := wd B) rfl rfl (load_blk b10 l10)) hS0 ?_
    simp only [Act.put, List.setIfInBounds_toArray, List.set_cons_zero, List.set_cons_succ]
    refine h_pure 3 ({ dst := some 29, op := Op.load 27 (Operand.tmp 9), type := 27, pos := "more.go:16", after := #[], guard := none } : Oper) (.agg (ofF (wd A))) (by kernel_rfl) rfl (by kernel_rfl) (by kernel_rfl) (fun _ _ _ h => h) rfl (y_load (g := g9) (f := wd A) rfl rfl (load_blk b9 l9)) hS0 ?_
    simp only [Act.put, List.setIfInBounds_toArray, List.set_cons_zero, List.set_cons_succ]
    refine h_pure 4 ({ dst := some 30, op := Op.load 27 (Operand.tmp 10), type := 27, pos := "more.go:16", after := #[], guard := none } : Oper) (.agg (ofF (wd B))) (by kernel_rfl) rfl (by kernel_rfl) (by kernel_rfl) (fun _ _ _ h => h) rfl (y_load (g := g10) (f := wd B) rfl rfl (load_blk b10 l10)) hS0 ?_
    simp only [Act.put, List.setIfInBounds_toArray, List.set_cons_zero, List.set_cons_succ]
    refine h_pure 7 ({ dst := some 33, op := Op.load 27 (Operand.tmp 9), type := 27, pos := "more.go:16", after := #[], guard := none } : Oper) (.agg (ofF (wd A))) (by kernel_rfl) rfl (by kernel_rfl) (by kernel_rfl) (fun _ _ _ h => h) rfl (y_load (g := g9) (f := wd A) rfl rfl (load_blk b9 l9)) hS0 ?_
    simp only [Act.put, List.setIfInBounds_toArray, List.set_cons_zero, List.set_cons_succ]
    refine h_callv 2 ({ dst := some 28, op := Op.call { callee := Callee.value (Operand.func 28), args := #[Operand.tmp 26, Operand.tmp 27], argTypes := #[27, 27] }, type := 27, pos := "more.go:16", after := #[{ on := 0, ground := Ground.data }, { on := 1, ground := Ground.data }], guard := none } : Oper) (args := #[.agg (ofF (wd A)), .agg (ofF (wd B))]) (v := .agg (ofF (wd (minus A B)))) own28 rfl rfl (by kernel_rfl) rfl rfl hS0 (Minus A B _) ?_
    intro vw1 hb1 hS1
    simp only [Act.put, List.setIfInBounds_toArray, List.set_cons_zero, List.set_cons_succ]
    refine h_callv 5 ({ dst := some 31, op := Op.call { callee := Callee.value (Operand.func 26), args := #[Operand.tmp 29, Operand.tmp 30], argTypes := #[27, 27] }, type := 27, pos := "more.go:16", after := #[{ on := 3, ground := Ground.data }, { on := 4, ground := Ground.data }, { on := 2, ground := Ground.chain }], guard := none } : Oper) (args := #[.agg (ofF (wd A)), .agg (ofF (wd B))]) (v := .agg (ofF (wd (A &&& B)))) own26 rfl rfl (by kernel_rfl) rfl rfl hS1 (And A B _) ?_
    intro vw2 hb2 hS2
    simp only [Act.put, List.setIfInBounds_toArray, List.set_cons_zero, List.set_cons_succ]
    refine h_callv 6 ({ dst := some 32, op := Op.call { callee := Callee.value (Operand.func 24), args := #[Operand.tmp 28, Operand.tmp 31], argTypes := #[27, 27] }, type := 27, pos := "more.go:16", after := #[{ on := 2, ground := Ground.data }, { on := 5, ground := Ground.data }, { on := 5, ground := Ground.chain }], guard := none } : Oper) (args := #[.agg (ofF (wd (minus A B))), .agg (ofF (wd (A &&& B)))]) (v := .agg (ofF (wd ((minus A B) ||| (A &&& B))))) own24 rfl rfl (by kernel_rfl) rfl rfl hS2 (Or (minus A B) (A &&& B) _) ?_
    intro vw3 hb3 hS3
    simp only [Act.put, List.setIfInBounds_toArray, List.set_cons_zero, List.set_cons_succ]
    refine h_callv 8 ({ dst := some 34, op := Op.call { callee := Callee.value (Operand.func 30), args := #[Operand.tmp 32, Operand.tmp 33], argTypes := #[27, 27] }, type := 4, pos := "more.go:16", after := #[{ on := 6, ground := Ground.data }, { on := 7, ground := Ground.data }, { on := 6, ground := Ground.chain }], guard := none } : Oper) (args := #[.agg (ofF (wd ((minus A B) ||| (A &&& B)))), .agg (ofF (wd A))]) (v := .bool true) own30 rfl rfl (by kernel_rfl) rfl rfl hS3 (same_true (small_or (small_minus hA) (small_and hA)) hA (mn1 A B) _) ?_
    intro vw4 hb4 hS4
    simp only [Act.put, List.setIfInBounds_toArray, List.set_cons_zero, List.set_cons_succ]
    refine h_pure 9 ({ dst := some 35, op := Op.move (Operand.tmp 34), type := 4, pos := "more.go:16", after := #[{ on := 8, ground := Ground.data }, { on := 8, ground := Ground.chain }], guard := none } : Oper) (.bool true) (by kernel_rfl) rfl (by kernel_rfl) (by kernel_rfl) (fun _ _ _ h => h) rfl (y_move rfl rfl) hS4 ?_
    simp only [Act.put, List.setIfInBounds_toArray, List.set_cons_zero, List.set_cons_succ]
    refine h_pure 10 ({ dst := some 36, op := Op.load 27 (Operand.tmp 9), type := 27, pos := "more.go:16", after := #[{ on := 9, ground := Ground.guard }], guard := some (9, true) } : Oper) (.agg (ofF (wd A))) (by kernel_rfl) rfl (by kernel_rfl) (by kernel_rfl) (fun _ _ _ h => h) rfl (y_load (g := g9) (f := wd A) rfl rfl (load_blk b9 l9)) hS4 ?_
    simp only [Act.put, List.setIfInBounds_toArray, List.set_cons_zero, List.set_cons_succ]
    refine h_pure 11 ({ dst := some 37, op := Op.move (Operand.tmp 2), type := 3, pos := "more.go:16", after := #[{ on := 9, ground := Ground.guard }], guard := some (9, true) } : Oper) (.int .i64 n) (by kernel_rfl) rfl (by kernel_rfl) (by kernel_rfl) (fun _ _ _ h => h) rfl (y_move rfl rfl) hS4 ?_
    simp only [Act.put, List.setIfInBounds_toArray, List.set_cons_zero, List.set_cons_succ]
    refine h_pure 13 ({ dst := some 39, op := Op.move (Operand.tmp 2), type := 3, pos := "more.go:16", after := #[{ on := 9, ground := Ground.guard }], guard := some (9, true) } : Oper) (.int .i64 n) (by kernel_rfl) rfl (by kernel_rfl) (by kernel_rfl) (fun _ _ _ h => h) rfl (y_move rfl rfl) hS4 ?_
    simp only [Act.put, List.setIfInBounds_toArray, List.set_cons_zero, List.set_cons_succ]
    refine h_pure 15 ({ dst := some 41, op := Op.load 27 (Operand.tmp 9), type := 27, pos := "more.go:16", after := #[{ on := 9, ground := Ground.guard }], guard := some (9, true) } : Oper) (.agg (ofF (wd A))) (by kernel_rfl) rfl (by kernel_rfl) (by kernel_rfl) (fun _ _ _ h => h) rfl (y_load (g := g9) (f := wd A) rfl rfl (load_blk b9 l9)) hS4 ?_
    simp only [Act.put, List.setIfInBounds_toArray, List.set_cons_zero, List.set_cons_succ]
    refine h_pure 16 ({ dst := some 42, op := Op.move (Operand.tmp 2), type := 3, pos := "more.go:16", after := #[{ on := 9, ground := Ground.guard }], guard := some (9, true) } : Oper) (.int .i64 n) (by kernel_rfl) rfl (by kernel_rfl) (by kernel_rfl) (fun _ _ _ h => h) rfl (y_move rfl rfl) hS4 ?_
    simp only [Act.put, List.setIfInBounds_toArray, List.set_cons_zero, List.set_cons_succ]
    refine h_callv 12 ({ dst := some 38, op := Op.call { callee := Callee.value (Operand.func 13), args := #[Operand.tmp 36, Operand.tmp 37], argTypes := #[27, 3] }, type := 27, pos := "more.go:16", after := #[{ on := 10, ground := Ground.data }, { on := 11, ground := Ground.data }, { on := 9, ground := Ground.chain }, { on := 9, ground := Ground.guard }], guard := some (9, true) } : Oper) (args := #[.agg (ofF (wd A)), .int .i64 n]) (v := .agg (ofF (wd (addI A n)))) own13 rfl rfl (by kernel_rfl) rfl rfl hS4 (With A n _) ?_
    intro vw5 hb5 hS5
    simp only [Act.put, List.setIfInBounds_toArray, List.set_cons_zero, List.set_cons_succ]
    refine h_callv 14 ({ dst := some 40, op := Op.call { callee := Callee.value (Operand.func 15), args := #[Operand.tmp 38, Operand.tmp 39], argTypes := #[27, 3] }, type := 27, pos := "more.go:16", after := #[{ on := 12, ground := Ground.data }, { on := 13, ground := Ground.data }, { on := 12, ground := Ground.chain }, { on := 9, ground := Ground.guard }], guard := some (9, true) } : Oper) (args := #[.agg (ofF (wd (addI A n))), .int .i64 n]) (v := .agg (ofF (wd (delI (addI A n) n)))) own15 rfl rfl (by kernel_rfl) rfl rfl hS5 (Without (addI A n) n _) ?_
    intro vw6 hb6 hS6
    simp only [Act.put, List.setIfInBounds_toArray, List.set_cons_zero, List.set_cons_succ]
    refine h_callv 17 ({ dst := some 43, op := Op.call { callee := Callee.value (Operand.func 15), args := #[Operand.tmp 41, Operand.tmp 42], argTypes := #[27, 3] }, type := 27, pos := "more.go:16", after := #[{ on := 15, ground := Ground.data }, { on := 16, ground := Ground.data }, { on := 14, ground := Ground.chain }, { on := 9, ground := Ground.guard }], guard := some (9, true) } : Oper) (args := #[.agg (ofF (wd A)), .int .i64 n]) (v := .agg (ofF (wd (delI A n)))) own15 rfl rfl (by kernel_rfl) rfl rfl hS6 (Without A n _) ?_
    intro vw7 hb7 hS7
    simp only [Act.put, List.setIfInBounds_toArray, List.set_cons_zero, List.set_cons_succ]
    refine h_callv 18 ({ dst := some 44, op := Op.call { callee := Callee.value (Operand.func 30), args := #[Operand.tmp 40, Operand.tmp 43], argTypes := #[27, 27] }, type := 4, pos := "more.go:16", after := #[{ on := 14, ground := Ground.data }, { on := 17, ground := Ground.data }, { on := 17, ground := Ground.chain }, { on := 9, ground := Ground.guard }], guard := some (9, true) } : Oper) (args := #[.agg (ofF (wd (delI (addI A n) n))), .agg (ofF (wd (delI A n)))]) (v := .bool true) own30 rfl rfl (by kernel_rfl) rfl rfl hS7 (same_true (small_delI (small_addI hA n) n) (small_delI hA n) (mn2 A n) _) ?_
    intro vw8 hb8 hS8
    simp only [Act.put, List.setIfInBounds_toArray, List.set_cons_zero, List.set_cons_succ]
    refine h_pure 19 ({ dst := some 45, op := Op.pick (Operand.tmp 35) (Operand.tmp 44) (Operand.const (Value.bool false)), type := 4, pos := "more.go:16", after := #[{ on := 9, ground := Ground.data }, { on := 18, ground := Ground.data }], guard := none } : Oper) (.bool true) (by kernel_rfl) rfl (by kernel_rfl) (by kernel_rfl) (fun _ _ _ h => h) rfl (y_pick rfl rfl rfl) hS8 ?_
    simp only [Act.put, List.setIfInBounds_toArray, List.set_cons_zero, List.set_cons_succ]
    refine h_pure 20 ({ dst := some 46, op := Op.move (Operand.tmp 45), type := 4, pos := "more.go:16", after := #[{ on := 19, ground := Ground.data }, { on := 18, ground := Ground.chain }], guard := none } : Oper) (.bool true) (by kernel_rfl) rfl (by kernel_rfl) (by kernel_rfl) (fun _ _ _ h => h) rfl (y_move rfl rfl) hS8 ?_
    simp only [Act.put, List.setIfInBounds_toArray, List.set_cons_zero, List.set_cons_succ]
    refine h_pure 21 ({ dst := some 47, op := Op.load 27 (Operand.tmp 9), type := 27, pos := "more.go:16", after := #[{ on := 20, ground := Ground.guard }], guard := some (20, true) } : Oper) (.agg (ofF (wd A))) (by kernel_rfl) rfl (by kernel_rfl) (by kernel_rfl) (fun _ _ _ h => h) rfl (y_load (g := g9) (f := wd A) rfl rfl (load_blk b9 l9)) hS8 ?_
    simp only [Act.put, List.setIfInBounds_toArray, List.set_cons_zero, List.set_cons_succ]
    refine h_pure 22 ({ dst := some 48, op := Op.move (Operand.tmp 2), type := 3, pos := "more.go:16", after := #[{ on := 20, ground := Ground.guard }], guard := some (20, true) } : Oper) (.int .i64 n) (by kernel_rfl) rfl (by kernel_rfl) (by kernel_rfl) (fun _ _ _ h => h) rfl (y_move rfl rfl) hS8 ?_
    simp only [Act.put, List.setIfInBounds_toArray, List.set_cons_zero, List.set_cons_succ]
    refine h_pure 26 ({ dst := some 52, op := Op.load 27 (Operand.tmp 9), type := 27, pos := "more.go:16", after := #[{ on := 20, ground := Ground.guard }], guard := some (20, true) } : Oper) (.agg (ofF (wd A))) (by kernel_rfl) rfl (by kernel_rfl) (by kernel_rfl) (fun _ _ _ h => h) rfl (y_load (g := g9) (f := wd A) rfl rfl (load_blk b9 l9)) hS8 ?_
    simp only [Act.put, List.setIfInBounds_toArray, List.set_cons_zero, List.set_cons_succ]
    refine h_pure 27 ({ dst := some 53, op := Op.move (Operand.tmp 2), type := 3, pos := "more.go:16", after := #[{ on := 20, ground := Ground.guard }], guard := some (20, true) } : Oper) (.int .i64 n) (by kernel_rfl) rfl (by kernel_rfl) (by kernel_rfl) (fun _ _ _ h => h) rfl (y_move rfl rfl) hS8 ?_
    simp only [Act.put, List.setIfInBounds_toArray, List.set_cons_zero, List.set_cons_succ]
    refine h_build1 23 ({ dst := some 49, op := Op.buildSlice 22 1 #[(0, Operand.tmp 48)], type := 22, pos := "more.go:16", after := #[{ on := 22, ground := Ground.data }, { on := 20, ground := Ground.guard }], guard := some (20, true) } : Oper) (n := n) rfl rfl (by kernel_rfl) rfl rfl hS8 ?_
    intro AA9 vw9 hI9 hS9
    simp only [Act.put, List.setIfInBounds_toArray, List.set_cons_zero, List.set_cons_succ]
    refine h_callv 24 ({ dst := some 50, op := Op.call { callee := Callee.value (Operand.func 10), args := #[Operand.tmp 49], argTypes := #[22] }, type := 27, pos := "more.go:16", after := #[{ on := 23, ground := Ground.data }, { on := 20, ground := Ground.chain }, { on := 20, ground := Ground.guard }], guard := some (20, true) } : Oper) (args := #[.slice (some AA9) 1 1]) (v := .agg (ofF (wd (ofL [n])))) own10 rfl rfl (by kernel_rfl) rfl rfl hS9 (of_one (some AA9) 1 n _ hI9) ?_
    intro vw10 hb10 hS10
    simp only [Act.put, List.setIfInBounds_toArray, List.set_cons_zero, List.set_cons_succ]
    refine h_callv 25 ({ dst := some 51, op := Op.call { callee := Callee.value (Operand.func 24), args := #[Operand.tmp 47, Operand.tmp 50], argTypes := #[27, 27] }, type := 27, pos := "more.go:16", after := #[{ on := 21, ground := Ground.data }, { on := 24, ground := Ground.data }, { on := 24, ground := Ground.chain }, { on := 20, ground := Ground.guard }], guard := some (20, true) } : Oper) (args := #[.agg (ofF (wd A)), .agg (ofF (wd (ofL [n])))]) (v := .agg (ofF (wd (A ||| (ofL [n]))))) own24 rfl rfl (by kernel_rfl) rfl rfl hS10 (Or A (ofL [n]) _) ?_
    intro vw11 hb11 hS11
    simp only [Act.put, List.setIfInBounds_toArray, List.set_cons_zero, List.set_cons_succ]
    refine h_callv 28 ({ dst := some 54, op := Op.call { callee := Callee.value (Operand.func 13), args := #[Operand.tmp 52, Operand.tmp 53], argTypes := #[27, 3] }, type := 27, pos := "more.go:16", after := #[{ on := 26, ground := Ground.data }, { on := 27, ground := Ground.data }, { on := 25, ground := Ground.chain }, { on := 20, ground := Ground.guard }], guard := some (20, true) } : Oper) (args := #[.agg (ofF (wd A)), .int .i64 n]) (v := .agg (ofF (wd (addI A n)))) own13 rfl rfl (by kernel_rfl) rfl rfl hS11 (With A n _) ?_
    intro vw12 hb12 hS12
    simp only [Act.put, List.setIfInBounds_toArray, List.set_cons_zero, List.set_cons_succ]
    refine h_callv 29 ({ dst := some 55, op := Op.call { callee := Callee.value (Operand.func 30), args := #[Operand.tmp 51, Operand.tmp 54], argTypes := #[27, 27] }, type := 4, pos := "more.go:16", after := #[{ on := 25, ground := Ground.data }, { on := 28, ground := Ground.data }, { on := 28, ground := Ground.chain }, { on := 20, ground := Ground.guard }], guard := some (20, true) } : Oper) (args := #[.agg (ofF (wd (A ||| (ofL [n])))), .agg (ofF (wd (addI A n)))]) (v := .bool true) own30 rfl rfl (by kernel_rfl) rfl rfl hS12 (same_true (small_or hA (small_ofL [n])) (small_addI hA n) (mn3 A n) _) ?_
    intro vw13 hb13 hS13
    simp only [Act.put, List.setIfInBounds_toArray, List.set_cons_zero, List.set_cons_succ]
    refine h_pure 30 ({ dst := some 56, op := Op.pick (Operand.tmp 46) (Operand.tmp 55) (Operand.const (Value.bool false)), type := 4, pos := "more.go:16", after := #[{ on := 20, ground := Ground.data }, { on := 29, ground := Ground.data }], guard := none } : Oper) (.bool true) (by kernel_rfl) rfl (by kernel_rfl) (by kernel_rfl) (fun _ _ _ h => h) rfl (y_pick rfl rfl rfl) hS13 ?_
    simp only [Act.put, List.setIfInBounds_toArray, List.set_cons_zero, List.set_cons_succ]
    refine h_pure 31 ({ dst := some 57, op := Op.move (Operand.tmp 56), type := 4, pos := "more.go:16", after := #[{ on := 30, ground := Ground.data }, { on := 29, ground := Ground.chain }], guard := none } : Oper) (.bool true) (by kernel_rfl) rfl (by kernel_rfl) (by kernel_rfl) (fun _ _ _ h => h) rfl (y_move rfl rfl) hS13 ?_
    simp only [Act.put, List.setIfInBounds_toArray, List.set_cons_zero, List.set_cons_succ]
    refine h_pure 32 ({ dst := some 58, op := Op.load 27 (Operand.tmp 9), type := 27, pos := "more.go:16", after := #[{ on := 31, ground := Ground.guard }], guard := some (31, true) } : Oper) (.agg (ofF (wd A))) (by kernel_rfl) rfl (by kernel_rfl) (by kernel_rfl) (fun _ _ _ h => h) rfl (y_load (g := g9) (f := wd A) rfl rfl (load_blk b9 l9)) hS13 ?_
    simp only [Act.put, List.setIfInBounds_toArray, List.set_cons_zero, List.set_cons_succ]
    refine h_pure 33 ({ dst := some 59, op := Op.move (Operand.tmp 2), type := 3, pos := "more.go:16", after := #[{ on := 31, ground := Ground.guard }], guard := some (31, true) } : Oper) (.int .i64 n) (by kernel_rfl) rfl (by kernel_rfl) (by kernel_rfl) (fun _ _ _ h => h) rfl (y_move rfl rfl) hS13 ?_
    simp only [Act.put, List.setIfInBounds_toArray, List.set_cons_zero, List.set_cons_succ]
    refine h_pure 37 ({ dst := some 63, op := Op.load 27 (Operand.tmp 9), type := 27, pos := "more.go:16", after := #[{ on := 31, ground := Ground.guard }], guard := some (31, true) } : Oper) (.agg (ofF (wd A))) (by kernel_rfl) rfl (by kernel_rfl) (by kernel_rfl) (fun _ _ _ h => h) rfl (y_load (g := g9) (f := wd A) rfl rfl (load_blk b9 l9)) hS13 ?_
    simp only [Act.put, List.setIfInBounds_toArray, List.set_cons_zero, List.set_cons_succ]
    refine h_pure 38 ({ dst := some 64, op := Op.move (Operand.tmp 2), type := 3, pos := "more.go:16", after := #[{ on := 31, ground := Ground.guard }], guard := some (31, true) } : Oper) (.int .i64 n) (by kernel_rfl) rfl (by kernel_rfl) (by kernel_rfl) (fun _ _ _ h => h) rfl (y_move rfl rfl) hS13 ?_
    simp only [Act.put, List.setIfInBounds_toArray, List.set_cons_zero, List.set_cons_succ]
    refine h_build1 34 ({ dst := some 60, op := Op.buildSlice 22 1 #[(0, Operand.tmp 59)], type := 22, pos := "more.go:16", after := #[{ on := 33, ground := Ground.data }, { on := 31, ground := Ground.guard }], guard := some (31, true) } : Oper) (n := n) rfl rfl (by kernel_rfl) rfl rfl hS13 ?_
    intro AA14 vw14 hI14 hS14
    simp only [Act.put, List.setIfInBounds_toArray, List.set_cons_zero, List.set_cons_succ]
    refine h_callv 35 ({ dst := some 61, op := Op.call { callee := Callee.value (Operand.func 10), args := #[Operand.tmp 60], argTypes := #[22] }, type := 27, pos := "more.go:16", after := #[{ on := 34, ground := Ground.data }, { on := 31, ground := Ground.chain }, { on := 31, ground := Ground.guard }], guard := some (31, true) } : Oper) (args := #[.slice (some AA14) 1 1]) (v := .agg (ofF (wd (ofL [n])))) own10 rfl rfl (by kernel_rfl) rfl rfl hS14 (of_one (some AA14) 1 n _ hI14) ?_
    intro vw15 hb15 hS15
    simp only [Act.put, List.setIfInBounds_toArray, List.set_cons_zero, List.set_cons_succ]
    refine h_callv 36 ({ dst := some 62, op := Op.call { callee := Callee.value (Operand.func 28), args := #[Operand.tmp 58, Operand.tmp 61], argTypes := #[27, 27] }, type := 27, pos := "more.go:16", after := #[{ on := 32, ground := Ground.data }, { on := 35, ground := Ground.data }, { on := 35, ground := Ground.chain }, { on := 31, ground := Ground.guard }], guard := some (31, true) } : Oper) (args := #[.agg (ofF (wd A)), .agg (ofF (wd (ofL [n])))]) (v := .agg (ofF (wd (minus A (ofL [n]))))) own28 rfl rfl (by kernel_rfl) rfl rfl hS15 (Minus A (ofL [n]) _) ?_
    intro vw16 hb16 hS16
    simp only [Act.put, List.setIfInBounds_toArray, List.set_cons_zero, List.set_cons_succ]
    refine h_callv 39 ({ dst := some 65, op := Op.call { callee := Callee.value (Operand.func 15), args := #[Operand.tmp 63, Operand.tmp 64], argTypes := #[27, 3] }, type := 27, pos := "more.go:16", after := #[{ on := 37, ground := Ground.data }, { on := 38, ground := Ground.data }, { on := 36, ground := Ground.chain }, { on := 31, ground := Ground.guard }], guard := some (31, true) } : Oper) (args := #[.agg (ofF (wd A)), .int .i64 n]) (v := .agg (ofF (wd (delI A n)))) own15 rfl rfl (by kernel_rfl) rfl rfl hS16 (Without A n _) ?_
    intro vw17 hb17 hS17
    simp only [Act.put, List.setIfInBounds_toArray, List.set_cons_zero, List.set_cons_succ]
    refine h_callv 40 ({ dst := some 66, op := Op.call { callee := Callee.value (Operand.func 30), args := #[Operand.tmp 62, Operand.tmp 65], argTypes := #[27, 27] }, type := 4, pos := "more.go:16", after := #[{ on := 36, ground := Ground.data }, { on := 39, ground := Ground.data }, { on := 39, ground := Ground.chain }, { on := 31, ground := Ground.guard }], guard := some (31, true) } : Oper) (args := #[.agg (ofF (wd (minus A (ofL [n])))), .agg (ofF (wd (delI A n)))]) (v := .bool true) own30 rfl rfl (by kernel_rfl) rfl rfl hS17 (same_true (small_minus hA) (small_delI hA n) (mn4 A n) _) ?_
    intro vw18 hb18 hS18
    simp only [Act.put, List.setIfInBounds_toArray, List.set_cons_zero, List.set_cons_succ]
    refine h_pure 41 ({ dst := some 67, op := Op.pick (Operand.tmp 57) (Operand.tmp 66) (Operand.const (Value.bool false)), type := 4, pos := "more.go:16", after := #[{ on := 31, ground := Ground.data }, { on := 40, ground := Ground.data }], guard := none } : Oper) (.bool true) (by kernel_rfl) rfl (by kernel_rfl) (by kernel_rfl) (fun _ _ _ h => h) rfl (y_pick rfl rfl rfl) hS18 ?_
    simp only [Act.put, List.setIfInBounds_toArray, List.set_cons_zero, List.set_cons_succ]
    refine h_pure 42 ({ dst := some 68, op := Op.move (Operand.tmp 67), type := 4, pos := "more.go:16", after := #[{ on := 41, ground := Ground.data }, { on := 40, ground := Ground.chain }], guard := none } : Oper) (.bool true) (by kernel_rfl) rfl (by kernel_rfl) (by kernel_rfl) (fun _ _ _ h => h) rfl (y_move rfl rfl) hS18 ?_
    simp only [Act.put, List.setIfInBounds_toArray, List.set_cons_zero, List.set_cons_succ]
    refine h_pure 43 ({ dst := some 69, op := Op.load 27 (Operand.tmp 9), type := 27, pos := "more.go:16", after := #[{ on := 42, ground := Ground.guard }], guard := some (42, true) } : Oper) (.agg (ofF (wd A))) (by kernel_rfl) rfl (by kernel_rfl) (by kernel_rfl) (fun _ _ _ h => h) rfl (y_load (g := g9) (f := wd A) rfl rfl (load_blk b9 l9)) hS18 ?_
    simp only [Act.put, List.setIfInBounds_toArray, List.set_cons_zero, List.set_cons_succ]
    refine h_pure 44 ({ dst := some 70, op := Op.load 27 (Operand.tmp 9), type := 27, pos := "more.go:16", after := #[{ on := 42, ground := Ground.guard }], guard := some (42, true) } : Oper) (.agg (ofF (wd A))) (by kernel_rfl) rfl (by kernel_rfl) (by kernel_rfl) (fun _ _ _ h => h) rfl (y_load (g := g9) (f := wd A) rfl rfl (load_blk b9 l9)) hS18 ?_
    simp only [Act.put, List.setIfInBounds_toArray, List.set_cons_zero, List.set_cons_succ]
    refine h_callv 45 ({ dst := some 71, op := Op.call { callee := Callee.value (Operand.func 28), args := #[Operand.tmp 69, Operand.tmp 70], argTypes := #[27, 27] }, type := 27, pos := "more.go:16", after := #[{ on := 43, ground := Ground.data }, { on := 44, ground := Ground.data }, { on := 42, ground := Ground.chain }, { on := 42, ground := Ground.guard }], guard := some (42, true) } : Oper) (args := #[.agg (ofF (wd A)), .agg (ofF (wd A))]) (v := .agg (ofF (wd (minus A A)))) own28 rfl rfl (by kernel_rfl) rfl rfl hS18 (Minus A A _) ?_
    intro vw19 hb19 hS19
    simp only [Act.put, List.setIfInBounds_toArray, List.set_cons_zero, List.set_cons_succ]
    refine h_callv 46 ({ dst := some 72, op := Op.call { callee := Callee.value (Operand.func 34), args := #[Operand.tmp 71], argTypes := #[27] }, type := 3, pos := "more.go:16", after := #[{ on := 45, ground := Ground.data }, { on := 45, ground := Ground.chain }, { on := 42, ground := Ground.guard }], guard := some (42, true) } : Oper) (args := #[.agg (ofF (wd (minus A A)))]) (v := .int .i64 (cntK (minus A A) 64 : Int)) own34 rfl rfl (by kernel_rfl) rfl rfl hS19 (Count (minus A A) _) ?_
    intro vw20 hb20 hS20
    simp only [Act.put, List.setIfInBounds_toArray, List.set_cons_zero, List.set_cons_succ]
    refine h_pure 47 ({ dst := some 73, op := Op.binOp BinOp.eql 3 (Operand.tmp 72) (Operand.const (Value.int IntKind.i64 0)) 3, type := 4, pos := "more.go:16", after := #[{ on := 46, ground := Ground.data }, { on := 42, ground := Ground.guard }], guard := some (42, true) } : Oper) (.bool true) (by kernel_rfl) rfl (by kernel_rfl) (by kernel_rfl) (fun _ _ _ h => h) rfl (y_eqlI (u := (cntK (minus A A) 64 : Int)) (v := (0 : Int)) (b := true) rfl rfl rfl (by rw [mn5, cntK_zero]; rfl)) hS20 ?_
    simp only [Act.put, List.setIfInBounds_toArray, List.set_cons_zero, List.set_cons_succ]
    refine h_pure 48 ({ dst := some 74, op := Op.pick (Operand.tmp 68) (Operand.tmp 73) (Operand.const (Value.bool false)), type := 4, pos := "more.go:16", after := #[{ on := 42, ground := Ground.data }, { on := 47, ground := Ground.data }], guard := none } : Oper) (.bool true) (by kernel_rfl) rfl (by kernel_rfl) (by kernel_rfl) (fun _ _ _ h => h) rfl (y_pick rfl rfl rfl) hS20 ?_
    simp only [Act.put, List.setIfInBounds_toArray, List.set_cons_zero, List.set_cons_succ]
    refine h_pure 49 ({ dst := some 6, op := Op.assign (Operand.tmp 74), type := 4, pos := "more.go:16", after := #[{ on := 48, ground := Ground.data }, { on := 46, ground := Ground.chain }, { on := 0, ground := Ground.phase }, { on := 1, ground := Ground.phase }, { on := 2, ground := Ground.phase }, { on := 3, ground := Ground.phase }, { on := 4, ground := Ground.phase }, { on := 5, ground := Ground.phase }, { on := 6, ground := Ground.phase }, { on := 7, ground := Ground.phase }, { on := 8, ground := Ground.phase }, { on := 9, ground := Ground.phase }, { on := 10, ground := Ground.phase }, { on := 11, ground := Ground.phase }, { on := 12, ground := Ground.phase }, { on := 13, ground := Ground.phase }, { on := 14, ground := Ground.phase }, { on := 15, ground := Ground.phase }, { on := 16, ground := Ground.phase }, { on := 17, ground := Ground.phase }, { on := 18, ground := Ground.phase }, { on := 19, ground := Ground.phase }, { on := 20, ground := Ground.phase }, { on := 21, ground := Ground.phase }, { on := 22, ground := Ground.phase }, { on := 23, ground := Ground.phase }, { on := 24, ground := Ground.phase }, { on := 25, ground := Ground.phase }, { on := 26, ground := Ground.phase }, { on := 27, ground := Ground.phase }, { on := 28, ground := Ground.phase }, { on := 29, ground := Ground.phase }, { on := 30, ground := Ground.phase }, { on := 31, ground := Ground.phase }, { on := 32, ground := Ground.phase }, { on := 33, ground := Ground.phase }, { on := 34, ground := Ground.phase }, { on := 35, ground := Ground.phase }, { on := 36, ground := Ground.phase }, { on := 37, ground := Ground.phase }, { on := 38, ground := Ground.phase }, { on := 39, ground := Ground.phase }, { on := 40, ground := Ground.phase }, { on := 41, ground := Ground.phase }, { on := 42, ground := Ground.phase }, { on := 43, ground := Ground.phase }, { on := 44, ground := Ground.phase }, { on := 45, ground := Ground.phase }, { on := 46, ground := Ground.phase }, { on := 47, ground := Ground.phase }, { on := 48, ground := Ground.phase }], guard := none } : Oper) (.bool true) (by kernel_rfl) rfl (by kernel_rfl) (by kernel_rfl) (fun _ _ _ h => h) rfl (y_assign rfl rfl) hS20 ?_
    simp only [Act.put, List.setIfInBounds_toArray, List.set_cons_zero, List.set_cons_succ]
    refine wpAnyH_done (by kernel_rfl) ?_ _
    have hB9 : Below w.heap.size w _ := bt hB6 hS20
    go_wp2
    go_ret
    exact ⟨rfl, hB9⟩
end Go.Proofs.YtabdhmfjbielaaaDoor
