/- PROVED here: parts VaB of the claim. No condition but those in each theorem's own head. -/
import Derived.Test.YtignojhijmamhaaK29
namespace Go.Proofs.Ytignojhijmamhaa.Va
open Go Go.RowKit
theorem str_nl {s : ByteArray} {l : List UInt8} (h : s ≠ ⟨l.toArray⟩) : (s.toList == l) = false := beq_eq_false_iff_ne.2 fun e => h (by
  rw [ByteArray.toList_eq] at e
  cases s; subst e; simp_all)
def optZ2 : Option Int → Int × Bool
  | none => (0, false)
  | some n => (n, true)
def optB2 : Option Bool → Bool × Bool
  | none => (false, false)
  | some n => (n, true)
set_option maxRecDepth 100000 in
theorem calculated_any (s : ByteArray) (a b : Int) (w : World) : Calls Try.prog 48 #[.string s, .int .i64 a, .int .i64 b] w fun e w' => e = .returned (.tuple #[.int .i64 (optZ2 (calR s a b)).1, .bool (optZ2 (calR s a b)).2]) ∧ w = w' := by
  by_cases h0 : s = ⟨#[43]⟩
  · subst h0
    have e0 := str_eq ⟨#[43]⟩
    have d1 := str_ne (show (⟨#[43]⟩ : ByteArray) ≠ ⟨#[45]⟩ by decide)
    have d2 := str_ne (show (⟨#[43]⟩ : ByteArray) ≠ ⟨#[42]⟩ by decide)
    rw [show calR ⟨#[43]⟩ a b = some (wrap64 (a + b)) by unfold calR; rw [if_pos rfl]]
    show Calls _ _ _ _ fun e w' => e = .returned (.tuple #[.int .i64 (wrap64 (a + b)), .bool true]) ∧ w = w'
    go_enter Try.func48, Try.ntmps48
    go_wp2
    go_ret2
    exact ⟨rfl, rfl⟩
  · have n0 := str_nl (l := [43]) h0
    by_cases h1 : s = ⟨#[45]⟩
    · subst h1
      have e1 := str_eq ⟨#[45]⟩
      have d0 := str_ne (show (⟨#[45]⟩ : ByteArray) ≠ ⟨#[43]⟩ by decide)
      have d2 := str_ne (show (⟨#[45]⟩ : ByteArray) ≠ ⟨#[42]⟩ by decide)
      clear n0 h0
      rw [show calR ⟨#[45]⟩ a b = some (wrap64 (a - b)) by unfold calR; rw [if_neg (by decide), if_pos rfl]]
      show Calls _ _ _ _ fun e w' => e = .returned (.tuple #[.int .i64 (wrap64 (a - b)), .bool true]) ∧ w = w'
      go_enter Try.func48, Try.ntmps48
      go_wp2
      go_ret2
      exact ⟨rfl, rfl⟩
    · have n1 := str_nl (l := [45]) h1
      by_cases h2 : s = ⟨#[42]⟩
      · subst h2
        have e2 := str_eq ⟨#[42]⟩
        have d0 := str_ne (show (⟨#[42]⟩ : ByteArray) ≠ ⟨#[43]⟩ by decide)
        have d1 := str_ne (show (⟨#[42]⟩ : ByteArray) ≠ ⟨#[45]⟩ by decide)
        clear n0 h0
        clear n1 h1
        rw [show calR ⟨#[42]⟩ a b = some (wrap64 (a * b)) by unfold calR; rw [if_neg (by decide), if_neg (by decide), if_pos rfl]]
        show Calls _ _ _ _ fun e w' => e = .returned (.tuple #[.int .i64 (wrap64 (a * b)), .bool true]) ∧ w = w'
        go_enter Try.func48, Try.ntmps48
        go_wp2
        go_ret2
        exact ⟨rfl, rfl⟩
      · have n2 := str_nl (l := [42]) h2
        rw [show calR s a b = none by unfold calR; rw [if_neg h0, if_neg h1, if_neg h2]]
        show Calls _ _ _ _ fun e w' => e = .returned (.tuple #[.int .i64 0, .bool false]) ∧ w = w'
        clear h0 h1 h2
        go_enter Try.func48, Try.ntmps48
        go_wp2
        go_ret2
        exact ⟨rfl, rfl⟩
set_option maxRecDepth 100000 in
theorem compared_any (s : ByteArray) (a b : Int) (w : World) : Calls Try.prog 49 #[.string s, .int .i64 a, .int .i64 b] w fun e w' => e = .returned (.tuple #[.bool (optB2 (cmpR s a b)).1, .bool (optB2 (cmpR s a b)).2]) ∧ w = w' := by
  by_cases h0 : s = ⟨#[61, 61]⟩
  · subst h0
    have e0 := str_eq ⟨#[61, 61]⟩
    have d1 := str_ne (show (⟨#[61, 61]⟩ : ByteArray) ≠ ⟨#[33, 61]⟩ by decide)
    have d2 := str_ne (show (⟨#[61, 61]⟩ : ByteArray) ≠ ⟨#[60]⟩ by decide)
    have d3 := str_ne (show (⟨#[61, 61]⟩ : ByteArray) ≠ ⟨#[60, 61]⟩ by decide)
    have d4 := str_ne (show (⟨#[61, 61]⟩ : ByteArray) ≠ ⟨#[62]⟩ by decide)
    have d5 := str_ne (show (⟨#[61, 61]⟩ : ByteArray) ≠ ⟨#[62, 61]⟩ by decide)
    rw [show cmpR ⟨#[61, 61]⟩ a b = some (a == b) by unfold cmpR; rw [if_pos rfl]]
    show Calls _ _ _ _ fun e w' => e = .returned (.tuple #[.bool (a == b), .bool true]) ∧ w = w'
    go_enter Try.func49, Try.ntmps49
    go_wp2
    go_ret2
    exact ⟨rfl, rfl⟩
  · have n0 := str_nl (l := [61, 61]) h0
    by_cases h1 : s = ⟨#[33, 61]⟩
    · subst h1
      have e1 := str_eq ⟨#[33, 61]⟩
      have d0 := str_ne (show (⟨#[33, 61]⟩ : ByteArray) ≠ ⟨#[61, 61]⟩ by decide)
      have d2 := str_ne (show (⟨#[33, 61]⟩ : ByteArray) ≠ ⟨#[60]⟩ by decide)
      have d3 := str_ne (show (⟨#[33, 61]⟩ : ByteArray) ≠ ⟨#[60, 61]⟩ by decide)
      have d4 := str_ne (show (⟨#[33, 61]⟩ : ByteArray) ≠ ⟨#[62]⟩ by decide)
      have d5 := str_ne (show (⟨#[33, 61]⟩ : ByteArray) ≠ ⟨#[62, 61]⟩ by decide)
      clear n0 h0
      rw [show cmpR ⟨#[33, 61]⟩ a b = some (a != b) by unfold cmpR; rw [if_neg (by decide), if_pos rfl]]
      show Calls _ _ _ _ fun e w' => e = .returned (.tuple #[.bool (a != b), .bool true]) ∧ w = w'
      go_enter Try.func49, Try.ntmps49
      go_wp2
      go_ret2
      exact ⟨rfl, rfl⟩
    · have n1 := str_nl (l := [33, 61]) h1
      by_cases h2 : s = ⟨#[60]⟩
      · subst h2
        have e2 := str_eq ⟨#[60]⟩
        have d0 := str_ne (show (⟨#[60]⟩ : ByteArray) ≠ ⟨#[61, 61]⟩ by decide)
        have d1 := str_ne (show (⟨#[60]⟩ : ByteArray) ≠ ⟨#[33, 61]⟩ by decide)
        have d3 := str_ne (show (⟨#[60]⟩ : ByteArray) ≠ ⟨#[60, 61]⟩ by decide)
        have d4 := str_ne (show (⟨#[60]⟩ : ByteArray) ≠ ⟨#[62]⟩ by decide)
        have d5 := str_ne (show (⟨#[60]⟩ : ByteArray) ≠ ⟨#[62, 61]⟩ by decide)
        clear n0 h0
        clear n1 h1
        rw [show cmpR ⟨#[60]⟩ a b = some (decide (a < b)) by unfold cmpR; rw [if_neg (by decide), if_neg (by decide), if_pos rfl]]
        show Calls _ _ _ _ fun e w' => e = .returned (.tuple #[.bool (decide (a < b)), .bool true]) ∧ w = w'
        go_enter Try.func49, Try.ntmps49
        go_wp2
        go_ret2
        exact ⟨rfl, rfl⟩
      · have n2 := str_nl (l := [60]) h2
        by_cases h3 : s = ⟨#[60, 61]⟩
        · subst h3
          have e3 := str_eq ⟨#[60, 61]⟩
          have d0 := str_ne (show (⟨#[60, 61]⟩ : ByteArray) ≠ ⟨#[61, 61]⟩ by decide)
          have d1 := str_ne (show (⟨#[60, 61]⟩ : ByteArray) ≠ ⟨#[33, 61]⟩ by decide)
          have d2 := str_ne (show (⟨#[60, 61]⟩ : ByteArray) ≠ ⟨#[60]⟩ by decide)
          have d4 := str_ne (show (⟨#[60, 61]⟩ : ByteArray) ≠ ⟨#[62]⟩ by decide)
          have d5 := str_ne (show (⟨#[60, 61]⟩ : ByteArray) ≠ ⟨#[62, 61]⟩ by decide)
          clear n0 h0
          clear n1 h1
          clear n2 h2
          rw [show cmpR ⟨#[60, 61]⟩ a b = some (decide (a ≤ b)) by unfold cmpR; rw [if_neg (by decide), if_neg (by decide), if_neg (by decide), if_pos rfl]]
          show Calls _ _ _ _ fun e w' => e = .returned (.tuple #[.bool (decide (a ≤ b)), .bool true]) ∧ w = w'
          go_enter Try.func49, Try.ntmps49
          go_wp2
          go_ret2
          exact ⟨rfl, rfl⟩
        · have n3 := str_nl (l := [60, 61]) h3
          by_cases h4 : s = ⟨#[62]⟩
          · subst h4
            have e4 := str_eq ⟨#[62]⟩
            have d0 := str_ne (show (⟨#[62]⟩ : ByteArray) ≠ ⟨#[61, 61]⟩ by decide)
            have d1 := str_ne (show (⟨#[62]⟩ : ByteArray) ≠ ⟨#[33, 61]⟩ by decide)
            have d2 := str_ne (show (⟨#[62]⟩ : ByteArray) ≠ ⟨#[60]⟩ by decide)
            have d3 := str_ne (show (⟨#[62]⟩ : ByteArray) ≠ ⟨#[60, 61]⟩ by decide)
            have d5 := str_ne (show (⟨#[62]⟩ : ByteArray) ≠ ⟨#[62, 61]⟩ by decide)
            clear n0 h0
            clear n1 h1
            clear n2 h2
            clear n3 h3
            rw [show cmpR ⟨#[62]⟩ a b = some (decide (b < a)) by unfold cmpR; rw [if_neg (by decide), if_neg (by decide), if_neg (by decide), if_neg (by decide), if_pos rfl]]
            show Calls _ _ _ _ fun e w' => e = .returned (.tuple #[.bool (decide (b < a)), .bool true]) ∧ w = w'
            go_enter Try.func49, Try.ntmps49
            go_wp2
            go_ret2
            exact ⟨rfl, rfl⟩
          · have n4 := str_nl (l := [62]) h4
            by_cases h5 : s = ⟨#[62, 61]⟩
            · subst h5
              have e5 := str_eq ⟨#[62, 61]⟩
              have d0 := str_ne (show (⟨#[62, 61]⟩ : ByteArray) ≠ ⟨#[61, 61]⟩ by decide)
              have d1 := str_ne (show (⟨#[62, 61]⟩ : ByteArray) ≠ ⟨#[33, 61]⟩ by decide)
              have d2 := str_ne (show (⟨#[62, 61]⟩ : ByteArray) ≠ ⟨#[60]⟩ by decide)
              have d3 := str_ne (show (⟨#[62, 61]⟩ : ByteArray) ≠ ⟨#[60, 61]⟩ by decide)
              have d4 := str_ne (show (⟨#[62, 61]⟩ : ByteArray) ≠ ⟨#[62]⟩ by decide)
              clear n0 h0
              clear n1 h1
              clear n2 h2
              clear n3 h3
              clear n4 h4
              rw [show cmpR ⟨#[62, 61]⟩ a b = some (decide (b ≤ a)) by unfold cmpR; rw [if_neg (by decide), if_neg (by decide), if_neg (by decide), if_neg (by decide), if_neg (by decide), if_pos rfl]]
              show Calls _ _ _ _ fun e w' => e = .returned (.tuple #[.bool (decide (b ≤ a)), .bool true]) ∧ w = w'
              go_enter Try.func49, Try.ntmps49
              go_wp2
              go_ret2
              exact ⟨rfl, rfl⟩
            · have n5 := str_nl (l := [62, 61]) h5
              rw [show cmpR s a b = none by unfold cmpR; rw [if_neg h0, if_neg h1, if_neg h2, if_neg h3, if_neg h4, if_neg h5]]
              show Calls _ _ _ _ fun e w' => e = .returned (.tuple #[.bool false, .bool false]) ∧ w = w'
              clear h0 h1 h2 h3 h4 h5
              go_enter Try.func49, Try.ntmps49
              go_wp2
              go_ret2
              exact ⟨rfl, rfl⟩
def optP : Option Bool → (Int × Int) × Bool
  | none => ((0, 0), false)
  | some t => ((2, tB t), true)
set_option maxRecDepth 100000 in
theorem ofTruths_any (s : ByteArray) (x y : Bool) (w : World) : Calls Try.prog 28 #[.string s, .bool x, .bool y] w (V2 (optP (truR s x y)).1.1 (optP (truR s x y)).1.2 (optP (truR s x y)).2 w) := by
  by_cases h0 : s = ⟨#[38, 38]⟩
  · subst h0
    have e0 := str_eq ⟨#[38, 38]⟩
    have d1 := str_ne (show (⟨#[38, 38]⟩ : ByteArray) ≠ ⟨#[124, 124]⟩ by decide)
    have d2 := str_ne (show (⟨#[38, 38]⟩ : ByteArray) ≠ ⟨#[61, 61]⟩ by decide)
    have d3 := str_ne (show (⟨#[38, 38]⟩ : ByteArray) ≠ ⟨#[33, 61]⟩ by decide)
    rw [show truR ⟨#[38, 38]⟩ x y = some (x && y) by unfold truR; rw [if_pos rfl]]
    show Calls _ _ _ _ (V2 2 (tB (x && y)) true w)
    cases x
    · have HO := Lib.hid (fun W => truth_any (false && y) W)
      go_enter Try.func28, Try.ntmps28
      go_wp2_with (go_at_call 50; refine (HO.out _).mono ?_; rintro e w' ⟨rfl, rfl⟩)
      exact bodyPost_ret (v := .tuple #[.agg #[.int .i64 2, .int .i64 (tB (false && y))], .bool true]) (by simp [results, Try.results28, go_sem]) rfl ⟨rfl, (heap1 _ _).alloc (by simp) _⟩
    · have HO := Lib.hid (fun W => truth_any (true && y) W)
      go_enter Try.func28, Try.ntmps28
      go_wp2_with (go_at_call 50; refine (HO.out _).mono ?_; rintro e w' ⟨rfl, rfl⟩)
      exact bodyPost_ret (v := .tuple #[.agg #[.int .i64 2, .int .i64 (tB (true && y))], .bool true]) (by simp [results, Try.results28, go_sem]) rfl ⟨rfl, (heap1 _ _).alloc (by simp) _⟩
  · have n0 := str_nl (l := [38, 38]) h0
    by_cases h1 : s = ⟨#[124, 124]⟩
    · subst h1
      have e1 := str_eq ⟨#[124, 124]⟩
      have d0 := str_ne (show (⟨#[124, 124]⟩ : ByteArray) ≠ ⟨#[38, 38]⟩ by decide)
      have d2 := str_ne (show (⟨#[124, 124]⟩ : ByteArray) ≠ ⟨#[61, 61]⟩ by decide)
      have d3 := str_ne (show (⟨#[124, 124]⟩ : ByteArray) ≠ ⟨#[33, 61]⟩ by decide)
      clear n0 h0
      rw [show truR ⟨#[124, 124]⟩ x y = some (x || y) by unfold truR; rw [if_neg (by decide), if_pos rfl]]
      show Calls _ _ _ _ (V2 2 (tB (x || y)) true w)
      cases x
      · have HO := Lib.hid (fun W => truth_any (false || y) W)
        go_enter Try.func28, Try.ntmps28
        go_wp2_with (go_at_call 50; refine (HO.out _).mono ?_; rintro e w' ⟨rfl, rfl⟩)
        exact bodyPost_ret (v := .tuple #[.agg #[.int .i64 2, .int .i64 (tB (false || y))], .bool true]) (by simp [results, Try.results28, go_sem]) rfl ⟨rfl, (heap1 _ _).alloc (by simp) _⟩
      · have HO := Lib.hid (fun W => truth_any (true || y) W)
        go_enter Try.func28, Try.ntmps28
        go_wp2_with (go_at_call 50; refine (HO.out _).mono ?_; rintro e w' ⟨rfl, rfl⟩)
        exact bodyPost_ret (v := .tuple #[.agg #[.int .i64 2, .int .i64 (tB (true || y))], .bool true]) (by simp [results, Try.results28, go_sem]) rfl ⟨rfl, (heap1 _ _).alloc (by simp) _⟩
    · have n1 := str_nl (l := [124, 124]) h1
      by_cases h2 : s = ⟨#[61, 61]⟩
      · subst h2
        have e2 := str_eq ⟨#[61, 61]⟩
        have d0 := str_ne (show (⟨#[61, 61]⟩ : ByteArray) ≠ ⟨#[38, 38]⟩ by decide)
        have d1 := str_ne (show (⟨#[61, 61]⟩ : ByteArray) ≠ ⟨#[124, 124]⟩ by decide)
        have d3 := str_ne (show (⟨#[61, 61]⟩ : ByteArray) ≠ ⟨#[33, 61]⟩ by decide)
        clear n0 h0
        clear n1 h1
        rw [show truR ⟨#[61, 61]⟩ x y = some (x == y) by unfold truR; rw [if_neg (by decide), if_neg (by decide), if_pos rfl]]
        show Calls _ _ _ _ (V2 2 (tB (x == y)) true w)
        have HO := Lib.hid (fun W => truth_any (x == y) W)
        go_enter Try.func28, Try.ntmps28
        go_wp2_with (go_at_call 50; refine (HO.out _).mono ?_; rintro e w' ⟨rfl, rfl⟩)
        exact bodyPost_ret (v := .tuple #[.agg #[.int .i64 2, .int .i64 (tB (x == y))], .bool true]) (by simp [results, Try.results28, go_sem]) rfl ⟨rfl, (heap1 _ _).alloc (by simp) _⟩
      · have n2 := str_nl (l := [61, 61]) h2
        by_cases h3 : s = ⟨#[33, 61]⟩
        · subst h3
          have e3 := str_eq ⟨#[33, 61]⟩
          have d0 := str_ne (show (⟨#[33, 61]⟩ : ByteArray) ≠ ⟨#[38, 38]⟩ by decide)
          have d1 := str_ne (show (⟨#[33, 61]⟩ : ByteArray) ≠ ⟨#[124, 124]⟩ by decide)
          have d2 := str_ne (show (⟨#[33, 61]⟩ : ByteArray) ≠ ⟨#[61, 61]⟩ by decide)
          clear n0 h0
          clear n1 h1
          clear n2 h2
          rw [show truR ⟨#[33, 61]⟩ x y = some (x != y) by unfold truR; rw [if_neg (by decide), if_neg (by decide), if_neg (by decide), if_pos rfl]]
          show Calls _ _ _ _ (V2 2 (tB (x != y)) true w)
          have HO := Lib.hid (fun W => truth_any (x != y) W)
          go_enter Try.func28, Try.ntmps28
          go_wp2_with (go_at_call 50; refine (HO.out _).mono ?_; rintro e w' ⟨rfl, rfl⟩)
          exact bodyPost_ret (v := .tuple #[.agg #[.int .i64 2, .int .i64 (tB (x != y))], .bool true]) (by simp [results, Try.results28, go_sem]) rfl ⟨rfl, (heap1 _ _).alloc (by simp) _⟩
        · have n3 := str_nl (l := [33, 61]) h3
          rw [show truR s x y = none by unfold truR; rw [if_neg h0, if_neg h1, if_neg h2, if_neg h3]]
          show Calls _ _ _ _ (V2 0 0 false w)
          clear h0 h1 h2 h3
          go_enter Try.func28, Try.ntmps28
          go_wp2
          exact bodyPost_ret (v := .tuple #[.agg #[.int .i64 0, .int .i64 0], .bool false]) (by simp [results, Try.results28, go_sem]) rfl ⟨rfl, heap1 _ _⟩
end Go.Proofs.Ytignojhijmamhaa.Va
