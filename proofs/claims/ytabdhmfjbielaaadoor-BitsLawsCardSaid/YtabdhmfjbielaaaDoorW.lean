/- PROVED here: the law BitsLaws returns true at any three lists, where the library's tables are as its text lays them. No condition but those in each theorem's own head. -/
import Derived.Test.YtabdhmfjbielaaaDoorV
namespace Go.Proofs.YtabdhmfjbielaaaDoor
open Go Go.RowKit

theorem sq0 (A B : Nat) : (A ||| B) = (B ||| A) := by
  apply Nat.eq_of_testBit_eq; intro j; simp only [Nat.testBit_or]; cases A.testBit j <;> cases B.testBit j <;> rfl
theorem sq1 (A B : Nat) : (A &&& B) = (B &&& A) := by
  apply Nat.eq_of_testBit_eq; intro j; simp only [Nat.testBit_and]; cases A.testBit j <;> cases B.testBit j <;> rfl
theorem sq2 (A B C : Nat) : (A ||| (B ||| C)) = ((A ||| B) ||| C) := by
  apply Nat.eq_of_testBit_eq; intro j; simp only [Nat.testBit_or]; cases A.testBit j <;> cases B.testBit j <;> cases C.testBit j <;> rfl
theorem sq3 (A B C : Nat) : (A &&& (B &&& C)) = ((A &&& B) &&& C) := by
  apply Nat.eq_of_testBit_eq; intro j; simp only [Nat.testBit_and]; cases A.testBit j <;> cases B.testBit j <;> cases C.testBit j <;> rfl
theorem sq4 (A B C : Nat) : (minus (A ||| B) C) = ((minus A C) ||| (minus B C)) := by
  apply Nat.eq_of_testBit_eq; intro j; simp only [Nat.testBit_or, minus_bit]; cases A.testBit j <;> cases B.testBit j <;> cases C.testBit j <;> rfl
theorem sq5 (A B C : Nat) : (A &&& (B ||| C)) = ((A &&& B) ||| (A &&& C)) := by
  apply Nat.eq_of_testBit_eq; intro j; simp only [Nat.testBit_or, Nat.testBit_and]; cases A.testBit j <;> cases B.testBit j <;> cases C.testBit j <;> rfl
theorem sq6 (A B : Nat) : (A &&& B) ||| A = A := by
  apply Nat.eq_of_testBit_eq; intro j; simp only [Nat.testBit_or, Nat.testBit_and]; cases A.testBit j <;> cases B.testBit j <;> rfl
theorem sq7 (A B : Nat) : A ||| (A ||| B) = (A ||| B) := by
  apply Nat.eq_of_testBit_eq; intro j; simp only [Nat.testBit_or]; cases A.testBit j <;> cases B.testBit j <;> rfl
theorem minus_and (A B : Nat) : minus A B &&& B = 0 := by
  apply Nat.eq_of_testBit_eq; intro j; simp only [Nat.testBit_and, minus_bit, Nat.zero_testBit]; cases A.testBit j <;> cases B.testBit j <;> rfl

set_option maxRecDepth 100000 in
set_option maxHeartbeats 8000000 in
theorem bitsLaws_any (P1 P2 P3 : Option Addr) (c1 c2 c3 : Nat) (l1 l2 l3 : List Int) (w : World) (hT : Tabs w) (hi1 : Ints w P1 l1) (hi2 : Ints w P2 l2) (hi3 : Ints w P3 l3) :
    Calls Tryd.prog 5 #[.slice P1 l1.length c1, .slice P2 l2.length c2, .slice P3 l3.length c3] w fun e w' => e = .returned (.bool true) ∧ Below w.heap.size w w' := by
  have HT := Lib.hid (fun w' (hb : Below w.heap.size w w') => hT.below hb)
  have HI1 := Lib.hid hi1
  have HI2 := Lib.hid hi2
  have HI3 := Lib.hid hi3
  clear hT hi1 hi2 hi3
  cases hs : shortB l1.length l2.length l3.length with
  | false =>
    have S0 := fun w => short_any P1 P2 P3 l1.length l2.length l3.length c1 c2 c3 w
    rw [hs] at S0
    have S1 := Lib.hid S0
    clear hs S0
    go_enter Tryd.func5, Tryd.ntmps5
    go_wp2_with (first
      | (go_at_call 9; refine (shown _ HT).mono ?_; rintro e w1 ⟨rfl, hb1⟩)
      | (go_at_call 23; refine (S1.out _).mono ?_; rintro e w2 ⟨rfl, rfl⟩))
    go_ret
    exact ⟨rfl, hb1⟩
  | true =>
    have hlen : l1.length ≤ 300 ∧ l2.length ≤ 300 ∧ l3.length ≤ 300 := by
      simpa [shortB] using hs
    obtain ⟨hl1, hl2, hl3⟩ := hlen
    have S0 := fun w => short_any P1 P2 P3 l1.length l2.length l3.length c1 c2 c3 w
    rw [hs] at S0
    have S1 := Lib.hid S0
    clear hs S0
    go_enter Tryd.func5, Tryd.ntmps5
    go_upto_region 5 with (first
      | (go_at_call 9; refine (shown _ HT).mono ?_; rintro e w1 ⟨rfl, hb1⟩)
      | (go_at_call 23; refine (S1.out _).mono ?_; rintro e w2 ⟨rfl, rfl⟩))
    go_upto_region 6 with (first
      | (go_at_call 10; refine (Of P1 c1 l1 _ (by omega) (HI1.out.below hb1)).mono ?_; rintro e w3 ⟨rfl, hb3⟩)
      | ((with_reducible apply alloc_store); (exact rfl); (exact rfl); intro w4 hb4 l9 b9; simp only [Act.put, List.setIfInBounds_toArray, List.set_cons_zero, List.set_cons_succ]))
    have hB4 : Below w.heap.size w w4 := bt hb1 (bt hb3 hb4)
    generalize w3.heap.size = g9 at *
    clear hb1 hb3 hb4
    go_upto_region 7 with (first
      | (go_at_call 10; refine (Of P2 c2 l2 _ (by omega) (HI2.out.below hB4)).mono ?_; rintro e w5 ⟨rfl, hb5⟩)
      | ((with_reducible apply alloc_store); (exact rfl); (exact rfl); intro w6 hb6 l10 b10; simp only [Act.put, List.setIfInBounds_toArray, List.set_cons_zero, List.set_cons_succ]))
    have hB6 : Below w.heap.size w w6 := bt hB4 (bt hb5 hb6)
    have b9' := blk_below b9 l9 (bt hb5 hb6)
    have l9' := Nat.lt_of_lt_of_le l9 (bt hb5 hb6).size
    generalize w5.heap.size = g10 at *
    clear hb5 hb6 hB4 b9 l9
    go_upto_region 8 with (first
      | (go_at_call 10; refine (Of P3 c3 l3 _ (by omega) (HI3.out.below hB6)).mono ?_; rintro e w7 ⟨rfl, hb7⟩)
      | ((with_reducible apply alloc_store); (exact rfl); (exact rfl); intro w8 hb8 l11 b11; simp only [Act.put, List.setIfInBounds_toArray, List.set_cons_zero, List.set_cons_succ]))
    have hB8 : Below w.heap.size w w8 := bt hB6 (bt hb7 hb8)
    have b9 := blk_below b9' l9' (bt hb7 hb8)
    have l9 := Nat.lt_of_lt_of_le l9' (bt hb7 hb8).size
    have b10' := blk_below b10 l10 (bt hb7 hb8)
    have l10' := Nat.lt_of_lt_of_le l10 (bt hb7 hb8).size
    generalize w7.heap.size = g11 at *
    clear hb7 hb8 hB6 b9' l9' b10 l10
    have hA := small_ofL l1
    have hB := small_ofL l2
    have hC := small_ofL l3
    generalize ofL l1 = A at *
    generalize ofL l2 = B at *
    generalize ofL l3 = C at *
    have b10 := b10'
    have l10 := l10'
    clear b10' l10' HI1 HI2 HI3 S1
    refine q_region (by kernel_rfl) ?_
    refine q_load (g := g9) (f := wd A) rfl rfl (load_blk b9 l9) ?_
    simp only [Act.put, List.setIfInBounds_toArray, List.set_cons_zero, List.set_cons_succ]
    refine q_load (g := g10) (f := wd B) rfl rfl (load_blk b10 l10) ?_
    simp only [Act.put, List.setIfInBounds_toArray, List.set_cons_zero, List.set_cons_succ]
    refine q_call own24 rfl (args := #[.agg (ofF (wd A)), .agg (ofF (wd B))]) (v := .agg (ofF (wd (A ||| B)))) rfl (call_cl (Or A B)) ?_
    simp only [Act.put, List.setIfInBounds_toArray, List.set_cons_zero, List.set_cons_succ]
    refine q_load (g := g10) (f := wd B) rfl rfl (load_blk b10 l10) ?_
    simp only [Act.put, List.setIfInBounds_toArray, List.set_cons_zero, List.set_cons_succ]
    refine q_load (g := g9) (f := wd A) rfl rfl (load_blk b9 l9) ?_
    simp only [Act.put, List.setIfInBounds_toArray, List.set_cons_zero, List.set_cons_succ]
    refine q_call own24 rfl (args := #[.agg (ofF (wd B)), .agg (ofF (wd A))]) (v := .agg (ofF (wd (B ||| A)))) rfl (call_cl (Or B A)) ?_
    simp only [Act.put, List.setIfInBounds_toArray, List.set_cons_zero, List.set_cons_succ]
    refine q_call own30 rfl (args := #[.agg (ofF (wd (A ||| B))), .agg (ofF (wd (B ||| A)))]) (v := .bool true) rfl (call_cl (same_true (small_or hA hB) (small_or hB hA) (sq0 A B))) ?_
    simp only [Act.put, List.setIfInBounds_toArray, List.set_cons_zero, List.set_cons_succ]
    refine q_move (v := .bool true) rfl rfl ?_
    simp only [Act.put, List.setIfInBounds_toArray, List.set_cons_zero, List.set_cons_succ]
    refine q_load (g := g9) (f := wd A) rfl rfl (load_blk b9 l9) ?_
    simp only [Act.put, List.setIfInBounds_toArray, List.set_cons_zero, List.set_cons_succ]
    refine q_load (g := g10) (f := wd B) rfl rfl (load_blk b10 l10) ?_
    simp only [Act.put, List.setIfInBounds_toArray, List.set_cons_zero, List.set_cons_succ]
    refine q_call own26 rfl (args := #[.agg (ofF (wd A)), .agg (ofF (wd B))]) (v := .agg (ofF (wd (A &&& B)))) rfl (call_cl (And A B)) ?_
    simp only [Act.put, List.setIfInBounds_toArray, List.set_cons_zero, List.set_cons_succ]
    refine q_load (g := g10) (f := wd B) rfl rfl (load_blk b10 l10) ?_
    simp only [Act.put, List.setIfInBounds_toArray, List.set_cons_zero, List.set_cons_succ]
    refine q_load (g := g9) (f := wd A) rfl rfl (load_blk b9 l9) ?_
    simp only [Act.put, List.setIfInBounds_toArray, List.set_cons_zero, List.set_cons_succ]
    refine q_call own26 rfl (args := #[.agg (ofF (wd B)), .agg (ofF (wd A))]) (v := .agg (ofF (wd (B &&& A)))) rfl (call_cl (And B A)) ?_
    simp only [Act.put, List.setIfInBounds_toArray, List.set_cons_zero, List.set_cons_succ]
    refine q_call own30 rfl (args := #[.agg (ofF (wd (A &&& B))), .agg (ofF (wd (B &&& A)))]) (v := .bool true) rfl (call_cl (same_true (small_and hA) (small_and hB) (sq1 A B))) ?_
    simp only [Act.put, List.setIfInBounds_toArray, List.set_cons_zero, List.set_cons_succ]
    refine q_pick (v := .bool true) rfl rfl rfl ?_
    simp only [Act.put, List.setIfInBounds_toArray, List.set_cons_zero, List.set_cons_succ]
    refine q_move (v := .bool true) rfl rfl ?_
    simp only [Act.put, List.setIfInBounds_toArray, List.set_cons_zero, List.set_cons_succ]
    refine q_load (g := g9) (f := wd A) rfl rfl (load_blk b9 l9) ?_
    simp only [Act.put, List.setIfInBounds_toArray, List.set_cons_zero, List.set_cons_succ]
    refine q_load (g := g10) (f := wd B) rfl rfl (load_blk b10 l10) ?_
    simp only [Act.put, List.setIfInBounds_toArray, List.set_cons_zero, List.set_cons_succ]
    refine q_load (g := g11) (f := wd C) rfl rfl (load_blk b11 l11) ?_
    simp only [Act.put, List.setIfInBounds_toArray, List.set_cons_zero, List.set_cons_succ]
    refine q_call own24 rfl (args := #[.agg (ofF (wd B)), .agg (ofF (wd C))]) (v := .agg (ofF (wd (B ||| C)))) rfl (call_cl (Or B C)) ?_
    simp only [Act.put, List.setIfInBounds_toArray, List.set_cons_zero, List.set_cons_succ]
    refine q_call own24 rfl (args := #[.agg (ofF (wd A)), .agg (ofF (wd (B ||| C)))]) (v := .agg (ofF (wd (A ||| (B ||| C))))) rfl (call_cl (Or A (B ||| C))) ?_
    simp only [Act.put, List.setIfInBounds_toArray, List.set_cons_zero, List.set_cons_succ]
    refine q_load (g := g9) (f := wd A) rfl rfl (load_blk b9 l9) ?_
    simp only [Act.put, List.setIfInBounds_toArray, List.set_cons_zero, List.set_cons_succ]
    refine q_load (g := g10) (f := wd B) rfl rfl (load_blk b10 l10) ?_
    simp only [Act.put, List.setIfInBounds_toArray, List.set_cons_zero, List.set_cons_succ]
    refine q_call own24 rfl (args := #[.agg (ofF (wd A)), .agg (ofF (wd B))]) (v := .agg (ofF (wd (A ||| B)))) rfl (call_cl (Or A B)) ?_
    simp only [Act.put, List.setIfInBounds_toArray, List.set_cons_zero, List.set_cons_succ]
    refine q_load (g := g11) (f := wd C) rfl rfl (load_blk b11 l11) ?_
    simp only [Act.put, List.setIfInBounds_toArray, List.set_cons_zero, List.set_cons_succ]
    refine q_call own24 rfl (args := #[.agg (ofF (wd (A ||| B))), .agg (ofF (wd C))]) (v := .agg (ofF (wd ((A ||| B) ||| C)))) rfl (call_cl (Or (A ||| B) C)) ?_
    simp only [Act.put, List.setIfInBounds_toArray, List.set_cons_zero, List.set_cons_succ]
    refine q_call own30 rfl (args := #[.agg (ofF (wd (A ||| (B ||| C)))), .agg (ofF (wd ((A ||| B) ||| C)))]) (v := .bool true) rfl (call_cl (same_true (small_or hA (small_or hB hC)) (small_or (small_or hA hB) hC) (sq2 A B C))) ?_
    simp only [Act.put, List.setIfInBounds_toArray, List.set_cons_zero, List.set_cons_succ]
    refine q_pick (v := .bool true) rfl rfl rfl ?_
    simp only [Act.put, List.setIfInBounds_toArray, List.set_cons_zero, List.set_cons_succ]
    refine q_move (v := .bool true) rfl rfl ?_
    simp only [Act.put, List.setIfInBounds_toArray, List.set_cons_zero, List.set_cons_succ]
    refine q_load (g := g9) (f := wd A) rfl rfl (load_blk b9 l9) ?_
    simp only [Act.put, List.setIfInBounds_toArray, List.set_cons_zero, List.set_cons_succ]
    refine q_load (g := g10) (f := wd B) rfl rfl (load_blk b10 l10) ?_
    simp only [Act.put, List.setIfInBounds_toArray, List.set_cons_zero, List.set_cons_succ]
    refine q_load (g := g11) (f := wd C) rfl rfl (load_blk b11 l11) ?_
    simp only [Act.put, List.setIfInBounds_toArray, List.set_cons_zero, List.set_cons_succ]
    refine q_call own26 rfl (args := #[.agg (ofF (wd B)), .agg (ofF (wd C))]) (v := .agg (ofF (wd (B &&& C)))) rfl (call_cl (And B C)) ?_
    simp only [Act.put, List.setIfInBounds_toArray, List.set_cons_zero, List.set_cons_succ]
    refine q_call own26 rfl (args := #[.agg (ofF (wd A)), .agg (ofF (wd (B &&& C)))]) (v := .agg (ofF (wd (A &&& (B &&& C))))) rfl (call_cl (And A (B &&& C))) ?_
    simp only [Act.put, List.setIfInBounds_toArray, List.set_cons_zero, List.set_cons_succ]
    refine q_load (g := g9) (f := wd A) rfl rfl (load_blk b9 l9) ?_
    simp only [Act.put, List.setIfInBounds_toArray, List.set_cons_zero, List.set_cons_succ]
    refine q_load (g := g10) (f := wd B) rfl rfl (load_blk b10 l10) ?_
    simp only [Act.put, List.setIfInBounds_toArray, List.set_cons_zero, List.set_cons_succ]
    refine q_call own26 rfl (args := #[.agg (ofF (wd A)), .agg (ofF (wd B))]) (v := .agg (ofF (wd (A &&& B)))) rfl (call_cl (And A B)) ?_
    simp only [Act.put, List.setIfInBounds_toArray, List.set_cons_zero, List.set_cons_succ]
    refine q_load (g := g11) (f := wd C) rfl rfl (load_blk b11 l11) ?_
    simp only [Act.put, List.setIfInBounds_toArray, List.set_cons_zero, List.set_cons_succ]
    refine q_call own26 rfl (args := #[.agg (ofF (wd (A &&& B))), .agg (ofF (wd C))]) (v := .agg (ofF (wd ((A &&& B) &&& C)))) rfl (call_cl (And (A &&& B) C)) ?_
    simp only [Act.put, List.setIfInBounds_toArray, List.set_cons_zero, List.set_cons_succ]
    refine q_call own30 rfl (args := #[.agg (ofF (wd (A &&& (B &&& C)))), .agg (ofF (wd ((A &&& B) &&& C)))]) (v := .bool true) rfl (call_cl (same_true (small_and hA) (small_and (small_and hA)) (sq3 A B C))) ?_
    simp only [Act.put, List.setIfInBounds_toArray, List.set_cons_zero, List.set_cons_succ]
    refine q_pick (v := .bool true) rfl rfl rfl ?_
    simp only [Act.put, List.setIfInBounds_toArray, List.set_cons_zero, List.set_cons_succ]
    refine q_assign (v := .bool true) rfl rfl ?_
    simp only [Act.put, List.setIfInBounds_toArray, List.set_cons_zero, List.set_cons_succ]
    refine wpQuiet_nil ?_
    intro w9 hc9
    have b9' := blk_below b9 l9 hc9
    have l9' := Nat.lt_of_lt_of_le l9 hc9.size
    have b10' := blk_below b10 l10 hc9
    have l10' := Nat.lt_of_lt_of_le l10 hc9.size
    have b11' := blk_below b11 l11 hc9
    have l11' := Nat.lt_of_lt_of_le l11 hc9.size
    have hB9 : Below w.heap.size w w9 := bt hB8 hc9
    clear hc9 b9 l9 b10 l10 b11 l11 hB8
    go_wp2_with fail
    refine q_region (by kernel_rfl) ?_
    refine q_load (g := g9) (f := wd A) rfl rfl (load_blk b9' l9') ?_
    simp only [Act.put, List.setIfInBounds_toArray, List.set_cons_zero, List.set_cons_succ]
    refine q_load (g := g10) (f := wd B) rfl rfl (load_blk b10' l10') ?_
    simp only [Act.put, List.setIfInBounds_toArray, List.set_cons_zero, List.set_cons_succ]
    refine q_call own24 rfl (args := #[.agg (ofF (wd A)), .agg (ofF (wd B))]) (v := .agg (ofF (wd (A ||| B)))) rfl (call_cl (Or A B)) ?_
    simp only [Act.put, List.setIfInBounds_toArray, List.set_cons_zero, List.set_cons_succ]
    refine q_load (g := g11) (f := wd C) rfl rfl (load_blk b11' l11') ?_
    simp only [Act.put, List.setIfInBounds_toArray, List.set_cons_zero, List.set_cons_succ]
    refine q_call own28 rfl (args := #[.agg (ofF (wd (A ||| B))), .agg (ofF (wd C))]) (v := .agg (ofF (wd (minus (A ||| B) C)))) rfl (call_cl (Minus (A ||| B) C)) ?_
    simp only [Act.put, List.setIfInBounds_toArray, List.set_cons_zero, List.set_cons_succ]
    refine q_load (g := g9) (f := wd A) rfl rfl (load_blk b9' l9') ?_
    simp only [Act.put, List.setIfInBounds_toArray, List.set_cons_zero, List.set_cons_succ]
    refine q_load (g := g11) (f := wd C) rfl rfl (load_blk b11' l11') ?_
    simp only [Act.put, List.setIfInBounds_toArray, List.set_cons_zero, List.set_cons_succ]
    refine q_call own28 rfl (args := #[.agg (ofF (wd A)), .agg (ofF (wd C))]) (v := .agg (ofF (wd (minus A C)))) rfl (call_cl (Minus A C)) ?_
    simp only [Act.put, List.setIfInBounds_toArray, List.set_cons_zero, List.set_cons_succ]
    refine q_load (g := g10) (f := wd B) rfl rfl (load_blk b10' l10') ?_
    simp only [Act.put, List.setIfInBounds_toArray, List.set_cons_zero, List.set_cons_succ]
    refine q_load (g := g11) (f := wd C) rfl rfl (load_blk b11' l11') ?_
    simp only [Act.put, List.setIfInBounds_toArray, List.set_cons_zero, List.set_cons_succ]
    refine q_call own28 rfl (args := #[.agg (ofF (wd B)), .agg (ofF (wd C))]) (v := .agg (ofF (wd (minus B C)))) rfl (call_cl (Minus B C)) ?_
    simp only [Act.put, List.setIfInBounds_toArray, List.set_cons_zero, List.set_cons_succ]
    refine q_call own24 rfl (args := #[.agg (ofF (wd (minus A C))), .agg (ofF (wd (minus B C)))]) (v := .agg (ofF (wd ((minus A C) ||| (minus B C))))) rfl (call_cl (Or (minus A C) (minus B C))) ?_
    simp only [Act.put, List.setIfInBounds_toArray, List.set_cons_zero, List.set_cons_succ]
    refine q_call own30 rfl (args := #[.agg (ofF (wd (minus (A ||| B) C))), .agg (ofF (wd ((minus A C) ||| (minus B C))))]) (v := .bool true) rfl (call_cl (same_true (small_minus (small_or hA hB)) (small_or (small_minus hA) (small_minus hB)) (sq4 A B C))) ?_
    simp only [Act.put, List.setIfInBounds_toArray, List.set_cons_zero, List.set_cons_succ]
    refine q_move (v := .bool true) rfl rfl ?_
    simp only [Act.put, List.setIfInBounds_toArray, List.set_cons_zero, List.set_cons_succ]
    refine q_load (g := g9) (f := wd A) rfl rfl (load_blk b9' l9') ?_
    simp only [Act.put, List.setIfInBounds_toArray, List.set_cons_zero, List.set_cons_succ]
    refine q_load (g := g10) (f := wd B) rfl rfl (load_blk b10' l10') ?_
    simp only [Act.put, List.setIfInBounds_toArray, List.set_cons_zero, List.set_cons_succ]
    refine q_load (g := g11) (f := wd C) rfl rfl (load_blk b11' l11') ?_
    simp only [Act.put, List.setIfInBounds_toArray, List.set_cons_zero, List.set_cons_succ]
    refine q_call own24 rfl (args := #[.agg (ofF (wd B)), .agg (ofF (wd C))]) (v := .agg (ofF (wd (B ||| C)))) rfl (call_cl (Or B C)) ?_
    simp only [Act.put, List.setIfInBounds_toArray, List.set_cons_zero, List.set_cons_succ]
    refine q_call own26 rfl (args := #[.agg (ofF (wd A)), .agg (ofF (wd (B ||| C)))]) (v := .agg (ofF (wd (A &&& (B ||| C))))) rfl (call_cl (And A (B ||| C))) ?_
    simp only [Act.put, List.setIfInBounds_toArray, List.set_cons_zero, List.set_cons_succ]
    refine q_load (g := g9) (f := wd A) rfl rfl (load_blk b9' l9') ?_
    simp only [Act.put, List.setIfInBounds_toArray, List.set_cons_zero, List.set_cons_succ]
    refine q_load (g := g10) (f := wd B) rfl rfl (load_blk b10' l10') ?_
    simp only [Act.put, List.setIfInBounds_toArray, List.set_cons_zero, List.set_cons_succ]
    refine q_call own26 rfl (args := #[.agg (ofF (wd A)), .agg (ofF (wd B))]) (v := .agg (ofF (wd (A &&& B)))) rfl (call_cl (And A B)) ?_
    simp only [Act.put, List.setIfInBounds_toArray, List.set_cons_zero, List.set_cons_succ]
    refine q_load (g := g9) (f := wd A) rfl rfl (load_blk b9' l9') ?_
    simp only [Act.put, List.setIfInBounds_toArray, List.set_cons_zero, List.set_cons_succ]
    refine q_load (g := g11) (f := wd C) rfl rfl (load_blk b11' l11') ?_
    simp only [Act.put, List.setIfInBounds_toArray, List.set_cons_zero, List.set_cons_succ]
    refine q_call own26 rfl (args := #[.agg (ofF (wd A)), .agg (ofF (wd C))]) (v := .agg (ofF (wd (A &&& C)))) rfl (call_cl (And A C)) ?_
    simp only [Act.put, List.setIfInBounds_toArray, List.set_cons_zero, List.set_cons_succ]
    refine q_call own24 rfl (args := #[.agg (ofF (wd (A &&& B))), .agg (ofF (wd (A &&& C)))]) (v := .agg (ofF (wd ((A &&& B) ||| (A &&& C))))) rfl (call_cl (Or (A &&& B) (A &&& C))) ?_
    simp only [Act.put, List.setIfInBounds_toArray, List.set_cons_zero, List.set_cons_succ]
    refine q_call own30 rfl (args := #[.agg (ofF (wd (A &&& (B ||| C)))), .agg (ofF (wd ((A &&& B) ||| (A &&& C))))]) (v := .bool true) rfl (call_cl (same_true (small_and hA) (small_or (small_and hA) (small_and hA)) (sq5 A B C))) ?_
    simp only [Act.put, List.setIfInBounds_toArray, List.set_cons_zero, List.set_cons_succ]
    refine q_pick (v := .bool true) rfl rfl rfl ?_
    simp only [Act.put, List.setIfInBounds_toArray, List.set_cons_zero, List.set_cons_succ]
    refine q_assign (v := .bool true) rfl rfl ?_
    simp only [Act.put, List.setIfInBounds_toArray, List.set_cons_zero, List.set_cons_succ]
    refine wpQuiet_nil ?_
    intro w10 hc10
    have b9 := blk_below b9' l9' hc10
    have l9 := Nat.lt_of_lt_of_le l9' hc10.size
    have b10 := blk_below b10' l10' hc10
    have l10 := Nat.lt_of_lt_of_le l10' hc10.size
    have hB10 : Below w.heap.size w w10 := bt hB9 hc10
    clear hc10 b9' l9' b10' l10' b11' l11' hB9
    go_wp2_with fail
    refine q_region (by kernel_rfl) ?_
    refine q_move (v := .bool true) rfl rfl ?_
    simp only [Act.put, List.setIfInBounds_toArray, List.set_cons_zero, List.set_cons_succ]
    refine q_move (v := .bool true) rfl rfl ?_
    simp only [Act.put, List.setIfInBounds_toArray, List.set_cons_zero, List.set_cons_succ]
    refine q_move (v := .bool true) rfl rfl ?_
    simp only [Act.put, List.setIfInBounds_toArray, List.set_cons_zero, List.set_cons_succ]
    refine q_pick (v := .bool true) rfl rfl rfl ?_
    simp only [Act.put, List.setIfInBounds_toArray, List.set_cons_zero, List.set_cons_succ]
    refine q_move (v := .bool true) rfl rfl ?_
    simp only [Act.put, List.setIfInBounds_toArray, List.set_cons_zero, List.set_cons_succ]
    refine q_load (g := g9) (f := wd A) rfl rfl (load_blk b9 l9) ?_
    simp only [Act.put, List.setIfInBounds_toArray, List.set_cons_zero, List.set_cons_succ]
    refine q_load (g := g10) (f := wd B) rfl rfl (load_blk b10 l10) ?_
    simp only [Act.put, List.setIfInBounds_toArray, List.set_cons_zero, List.set_cons_succ]
    refine q_call own32 rfl (args := #[.agg (ofF (wd A)), .agg (ofF (wd B))]) (v := .bool (withinB A B)) rfl (call_cl (Within A B hA hB)) ?_
    simp only [Act.put, List.setIfInBounds_toArray, List.set_cons_zero, List.set_cons_succ]
    refine q_load (g := g9) (f := wd A) rfl rfl (load_blk b9 l9) ?_
    simp only [Act.put, List.setIfInBounds_toArray, List.set_cons_zero, List.set_cons_succ]
    refine q_load (g := g10) (f := wd B) rfl rfl (load_blk b10 l10) ?_
    simp only [Act.put, List.setIfInBounds_toArray, List.set_cons_zero, List.set_cons_succ]
    refine q_call own24 rfl (args := #[.agg (ofF (wd A)), .agg (ofF (wd B))]) (v := .agg (ofF (wd (A ||| B)))) rfl (call_cl (Or A B)) ?_
    simp only [Act.put, List.setIfInBounds_toArray, List.set_cons_zero, List.set_cons_succ]
    refine q_load (g := g10) (f := wd B) rfl rfl (load_blk b10 l10) ?_
    simp only [Act.put, List.setIfInBounds_toArray, List.set_cons_zero, List.set_cons_succ]
    refine q_call own30 rfl (args := #[.agg (ofF (wd (A ||| B))), .agg (ofF (wd B))]) (v := .bool (sameB (A ||| B) B)) rfl (call_cl (Same (A ||| B) B (small_or hA hB) hB)) ?_
    simp only [Act.put, List.setIfInBounds_toArray, List.set_cons_zero, List.set_cons_succ]
    refine q_eqlB (u := (withinB A B)) (v := (sameB (A ||| B) B)) (b := true) rfl rfl rfl (by simp [withinB, sameB]) ?_
    simp only [Act.put, List.setIfInBounds_toArray, List.set_cons_zero, List.set_cons_succ]
    refine q_pick (v := .bool true) rfl rfl rfl ?_
    simp only [Act.put, List.setIfInBounds_toArray, List.set_cons_zero, List.set_cons_succ]
    refine q_move (v := .bool true) rfl rfl ?_
    simp only [Act.put, List.setIfInBounds_toArray, List.set_cons_zero, List.set_cons_succ]
    refine q_load (g := g9) (f := wd A) rfl rfl (load_blk b9 l9) ?_
    simp only [Act.put, List.setIfInBounds_toArray, List.set_cons_zero, List.set_cons_succ]
    refine q_load (g := g10) (f := wd B) rfl rfl (load_blk b10 l10) ?_
    simp only [Act.put, List.setIfInBounds_toArray, List.set_cons_zero, List.set_cons_succ]
    refine q_call own26 rfl (args := #[.agg (ofF (wd A)), .agg (ofF (wd B))]) (v := .agg (ofF (wd (A &&& B)))) rfl (call_cl (And A B)) ?_
    simp only [Act.put, List.setIfInBounds_toArray, List.set_cons_zero, List.set_cons_succ]
    refine q_load (g := g9) (f := wd A) rfl rfl (load_blk b9 l9) ?_
    simp only [Act.put, List.setIfInBounds_toArray, List.set_cons_zero, List.set_cons_succ]
    refine q_call own32 rfl (args := #[.agg (ofF (wd (A &&& B))), .agg (ofF (wd A))]) (v := .bool true) rfl (call_cl (within_true (small_and hA) hA (sq6 A B))) ?_
    simp only [Act.put, List.setIfInBounds_toArray, List.set_cons_zero, List.set_cons_succ]
    refine q_pick (v := .bool true) rfl rfl rfl ?_
    simp only [Act.put, List.setIfInBounds_toArray, List.set_cons_zero, List.set_cons_succ]
    refine q_move (v := .bool true) rfl rfl ?_
    simp only [Act.put, List.setIfInBounds_toArray, List.set_cons_zero, List.set_cons_succ]
    refine q_load (g := g9) (f := wd A) rfl rfl (load_blk b9 l9) ?_
    simp only [Act.put, List.setIfInBounds_toArray, List.set_cons_zero, List.set_cons_succ]
    refine q_load (g := g9) (f := wd A) rfl rfl (load_blk b9 l9) ?_
    simp only [Act.put, List.setIfInBounds_toArray, List.set_cons_zero, List.set_cons_succ]
    refine q_load (g := g10) (f := wd B) rfl rfl (load_blk b10 l10) ?_
    simp only [Act.put, List.setIfInBounds_toArray, List.set_cons_zero, List.set_cons_succ]
    refine q_call own24 rfl (args := #[.agg (ofF (wd A)), .agg (ofF (wd B))]) (v := .agg (ofF (wd (A ||| B)))) rfl (call_cl (Or A B)) ?_
    simp only [Act.put, List.setIfInBounds_toArray, List.set_cons_zero, List.set_cons_succ]
    refine q_call own32 rfl (args := #[.agg (ofF (wd A)), .agg (ofF (wd (A ||| B)))]) (v := .bool true) rfl (call_cl (within_true hA (small_or hA hB) (sq7 A B))) ?_
    simp only [Act.put, List.setIfInBounds_toArray, List.set_cons_zero, List.set_cons_succ]
    refine q_pick (v := .bool true) rfl rfl rfl ?_
    simp only [Act.put, List.setIfInBounds_toArray, List.set_cons_zero, List.set_cons_succ]
    refine q_move (v := .bool true) rfl rfl ?_
    simp only [Act.put, List.setIfInBounds_toArray, List.set_cons_zero, List.set_cons_succ]
    refine q_load (g := g9) (f := wd A) rfl rfl (load_blk b9 l9) ?_
    simp only [Act.put, List.setIfInBounds_toArray, List.set_cons_zero, List.set_cons_succ]
    refine q_load (g := g10) (f := wd B) rfl rfl (load_blk b10 l10) ?_
    simp only [Act.put, List.setIfInBounds_toArray, List.set_cons_zero, List.set_cons_succ]
    refine q_call own28 rfl (args := #[.agg (ofF (wd A)), .agg (ofF (wd B))]) (v := .agg (ofF (wd (minus A B)))) rfl (call_cl (Minus A B)) ?_
    simp only [Act.put, List.setIfInBounds_toArray, List.set_cons_zero, List.set_cons_succ]
    refine q_load (g := g10) (f := wd B) rfl rfl (load_blk b10 l10) ?_
    simp only [Act.put, List.setIfInBounds_toArray, List.set_cons_zero, List.set_cons_succ]
    refine q_call own26 rfl (args := #[.agg (ofF (wd (minus A B))), .agg (ofF (wd B))]) (v := .agg (ofF (wd ((minus A B) &&& B)))) rfl (call_cl (And (minus A B) B)) ?_
    simp only [Act.put, List.setIfInBounds_toArray, List.set_cons_zero, List.set_cons_succ]
    refine q_call own34 rfl (args := #[.agg (ofF (wd ((minus A B) &&& B)))]) (v := .int .i64 (cntK ((minus A B) &&& B) 64 : Int)) rfl (call_cl (Count ((minus A B) &&& B))) ?_
    simp only [Act.put, List.setIfInBounds_toArray, List.set_cons_zero, List.set_cons_succ]
    refine q_eqlI (u := (cntK ((minus A B) &&& B) 64 : Int)) (v := (0 : Int)) (b := true) rfl rfl rfl (by rw [minus_and, cntK_zero]; rfl) ?_
    simp only [Act.put, List.setIfInBounds_toArray, List.set_cons_zero, List.set_cons_succ]
    refine q_pick (v := .bool true) rfl rfl rfl ?_
    simp only [Act.put, List.setIfInBounds_toArray, List.set_cons_zero, List.set_cons_succ]
    refine q_assign (v := .bool true) rfl rfl ?_
    simp only [Act.put, List.setIfInBounds_toArray, List.set_cons_zero, List.set_cons_succ]
    refine wpQuiet_nil ?_
    intro w11 hc11
    have hB11 : Below w.heap.size w w11 := bt hB10 hc11
    clear hc11
    go_wp2
    go_ret
    exact ⟨rfl, hB11⟩

end Go.Proofs.YtabdhmfjbielaaaDoor
