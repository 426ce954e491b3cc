/- PROVED here: Unary and Binary, the program's and the document's. No condition but those in each theorem's own head. -/
import Derived.Test.YtpeodpgihmcghaaC
namespace Go.Proofs.Ytpeodpgihmcghaa
open Go Go.RowKit

set_option maxRecDepth 100000 in
theorem unary_any (s : ByteArray) (k n : Int) (w : World) : Calls Try.prog 9 #[.string s, .agg #[.int .i64 k, .int .i64 n]] w (V2 (unR s k n).1.1 (unR s k n).1.2 (unR s k n).2 w) := by
  by_cases h0 : s = ⟨#[45]⟩
  · subst h0
    have e0 := str_eq ⟨#[45]⟩
    have d1 := str_ne (show (⟨#[45]⟩ : ByteArray) ≠ ⟨#[33]⟩ by decide)
    by_cases hk : k = 1
    · subst hk
      rw [show unR ⟨#[45]⟩ 1 n = ((1, wrap64 (-n)), true) from rfl]
      have HO := Lib.hid (fun W => number_any (wrap64 (-n)) W)
      go_enter Try.func9, Try.ntmps9
      go_wp2_with (go_at_call 27; refine (HO.out _).mono ?_; rintro e w' ⟨rfl, rfl⟩)
      exact bodyPost_ret (v := .tuple #[.agg #[.int .i64 1, .int .i64 (wrap64 (-n))], .bool true]) (by simp [results, Try.results9, go_sem]) rfl ⟨rfl, ((heap1 _ _).alloc (by simp only [World.size_alloc]; omega) _).alloc (by simp only [World.size_alloc]; omega) _⟩
    · have hk0 : (k == 1) = false := beq_eq_false_iff_ne.2 hk
      rw [show unR ⟨#[45]⟩ k n = ((0, 0), false) by unfold unR; rw [if_neg (fun h => hk h.2), if_neg (fun h => absurd h.1 (by decide))]]
      go_enter Try.func9, Try.ntmps9
      go_wp2
      exact bodyPost_ret (v := .tuple #[.agg #[.int .i64 0, .int .i64 0], .bool false]) (by simp [results, Try.results9, go_sem]) rfl ⟨rfl, (heap1 _ _).alloc (by simp only [World.size_alloc]; omega) _⟩
  · have n0 := str_nl (l := [45]) h0
    by_cases h1 : s = ⟨#[33]⟩
    · subst h1
      clear n0 h0
      have e1 := str_eq ⟨#[33]⟩
      by_cases hk : k = 2
      · subst hk
        rw [show unR ⟨#[33]⟩ 2 n = ((2, tB (n == 0)), true) from rfl]
        have HO := Lib.hid (fun W => truth_any (n == 0) W)
        have HI := Lib.hid (fun W => isTrue_any 2 n W)
        rw [show (n != 0) = !(n == 0) from rfl] at HI
        generalize (n == 0) = bz at *
        have hbb : (!(!bz)) = bz := by cases bz <;> rfl
        have hX := (Bx.new w 23 [.int .i64 2, .int .i64 n])
        have hY := Bx.new (w.alloc (.cells #[.int .i64 2, .int .i64 n] 23)) 23 [.int .i64 0, .int .i64 0]
        rw [World.size_alloc] at hY
        go_enter Try.func9, Try.ntmps9
        go_wp2_with (go_at_call 29; refine (HI.out _).mono ?_)
        rintro e w1 ⟨rfl, hb1⟩
        have hX1 := hY.below hb1 hY.lt
        have c0 := (hX1.cell 0).trans rfl
        have c1 := (hX1.cell 1).trans rfl
        have f0 := hX1.frozen 0
        have f1 := hX1.frozen 1
        have hz := hX1.lt
        have HB := Lib.hid (bt ((heap1 w _).alloc (by simp) _) hb1)
        clear hb1 hX hY hX1
        go_wp2_with (go_at_call 28; refine (HO.out _).mono ?_; rintro e w' ⟨rfl, rfl⟩)
        exact bodyPost_ret (v := .tuple #[.agg #[.int .i64 2, .int .i64 (tB bz)], .bool true]) (by simp [results, Try.results9, go_sem, c0, c1, hz]) rfl ⟨rfl, (below2 HB.out (by omega)).alloc (by simpa using HB.out.size) _⟩
      · have hk0 : (k == 2) = false := beq_eq_false_iff_ne.2 hk
        rw [show unR ⟨#[33]⟩ k n = ((0, 0), false) by unfold unR; rw [if_neg (fun h => absurd h.1 (by decide)), if_neg (fun h => hk h.2)]]
        go_enter Try.func9, Try.ntmps9
        go_wp2
        exact bodyPost_ret (v := .tuple #[.agg #[.int .i64 0, .int .i64 0], .bool false]) (by simp [results, Try.results9, go_sem]) rfl ⟨rfl, (heap1 _ _).alloc (by simp only [World.size_alloc]; omega) _⟩
    · have n1 := str_nl (l := [33]) h1
      rw [show unR s k n = ((0, 0), false) by unfold unR; rw [if_neg (fun h => h0 h.1), if_neg (fun h => h1 h.1)]]
      clear h0 h1
      go_enter Try.func9, Try.ntmps9
      go_wp2
      exact bodyPost_ret (v := .tuple #[.agg #[.int .i64 0, .int .i64 0], .bool false]) (by simp [results, Try.results9, go_sem]) rfl ⟨rfl, (heap1 _ _).alloc (by simp only [World.size_alloc]; omega) _⟩
set_option maxRecDepth 100000 in
theorem runary_any (s : ByteArray) (k n : Int) (w : World) : Calls Try.prog 10 #[.string s, .agg #[.int .i64 k, .int .i64 n]] w (V2 (unR s k n).1.1 (unR s k n).1.2 (unR s k n).2 w) := by
  by_cases h0 : s = ⟨#[45]⟩
  · subst h0
    have e0 := str_eq ⟨#[45]⟩
    have d1 := str_ne (show (⟨#[45]⟩ : ByteArray) ≠ ⟨#[33]⟩ by decide)
    by_cases hk : k = 1
    · subst hk
      rw [show unR ⟨#[45]⟩ 1 n = ((1, wrap64 (-n)), true) from rfl]
      go_enter Try.func10, Try.ntmps10
      go_wp2
      exact bodyPost_ret (v := .tuple #[.agg #[.int .i64 1, .int .i64 (wrap64 (-n))], .bool true]) (by simp [results, Try.results10, go_sem]) rfl ⟨rfl, (heap1 _ _).alloc (by simp only [World.size_alloc]; omega) _⟩
    · have hk0 : (k == 1) = false := beq_eq_false_iff_ne.2 hk
      rw [show unR ⟨#[45]⟩ k n = ((0, 0), false) by unfold unR; rw [if_neg (fun h => hk h.2), if_neg (fun h => absurd h.1 (by decide))]]
      go_enter Try.func10, Try.ntmps10
      go_wp2
      exact bodyPost_ret (v := .tuple #[.agg #[.int .i64 0, .int .i64 0], .bool false]) (by simp [results, Try.results10, go_sem]) rfl ⟨rfl, (heap1 _ _).alloc (by simp only [World.size_alloc]; omega) _⟩
  · have n0 := str_nl (l := [45]) h0
    by_cases h1 : s = ⟨#[33]⟩
    · subst h1
      clear n0 h0
      have e1 := str_eq ⟨#[33]⟩
      by_cases hk : k = 2
      · subst hk
        rw [show unR ⟨#[33]⟩ 2 n = ((2, tB (n == 0)), true) from rfl]
        have HO := Lib.hid (fun W => of_any (n == 0) W)
        go_enter Try.func10, Try.ntmps10
        go_wp2_with (go_at_call 30; refine (HO.out _).mono ?_; rintro e w' ⟨rfl, rfl⟩)
        exact bodyPost_ret (v := .tuple #[.agg #[.int .i64 2, .int .i64 (tB (n == 0))], .bool true]) (by simp [results, Try.results10, go_sem]) rfl ⟨rfl, ((heap1 _ _).alloc (by simp only [World.size_alloc]; omega) _).alloc (by simp only [World.size_alloc]; omega) _⟩
      · have hk0 : (k == 2) = false := beq_eq_false_iff_ne.2 hk
        rw [show unR ⟨#[33]⟩ k n = ((0, 0), false) by unfold unR; rw [if_neg (fun h => absurd h.1 (by decide)), if_neg (fun h => hk h.2)]]
        go_enter Try.func10, Try.ntmps10
        go_wp2
        exact bodyPost_ret (v := .tuple #[.agg #[.int .i64 0, .int .i64 0], .bool false]) (by simp [results, Try.results10, go_sem]) rfl ⟨rfl, (heap1 _ _).alloc (by simp only [World.size_alloc]; omega) _⟩
    · have n1 := str_nl (l := [33]) h1
      rw [show unR s k n = ((0, 0), false) by unfold unR; rw [if_neg (fun h => h0 h.1), if_neg (fun h => h1 h.1)]]
      clear h0 h1
      go_enter Try.func10, Try.ntmps10
      go_wp2
      exact bodyPost_ret (v := .tuple #[.agg #[.int .i64 0, .int .i64 0], .bool false]) (by simp [results, Try.results10, go_sem]) rfl ⟨rfl, (heap1 _ _).alloc (by simp only [World.size_alloc]; omega) _⟩
end Go.Proofs.Ytpeodpgihmcghaa
