/- PROVED here: parts VaC VaD VaE of the claim. No condition but those in each theorem's own head. -/
import Derived.Test.YtignojhijmamhaaK30
import Derived.Deep.RegionHeld3
namespace Go.Proofs.Ytignojhijmamhaa.Va
open Go Go.RowKit
set_option maxRecDepth 100000 in
theorem divided_zero (s : ByteArray) (a : Int) (w : World) : Calls Try.prog 47 #[.string s, .int .i64 a, .int .i64 0] w fun e w' => e = .returned (.tuple #[.agg #[.int .i64 0, .int .i64 0], .int .i64 1, .bool true]) ∧ w' = w.alloc (.cells #[.int .i64 0, .int .i64 0] 41) := by
  go_enter Try.func47, Try.ntmps47
  go_wp2
  exact bodyPost_ret (v := .tuple #[.agg #[.int .i64 0, .int .i64 0], .int .i64 1, .bool true]) (by simp [results, Try.results47, go_sem]) rfl ⟨rfl, rfl⟩
set_option maxRecDepth 100000 in
theorem divided_quo (a b : Int) (hb : b ≠ 0) (w : World) : Calls Try.prog 47 #[.string ⟨#[47]⟩, .int .i64 a, .int .i64 b] w fun e w' => e = .returned (.tuple #[.agg #[.int .i64 1, .int .i64 (wrap64 (a.tdiv b))], .int .i64 0, .bool true]) ∧ w' = (w.alloc (.cells #[.int .i64 1, .int .i64 (wrap64 (a.tdiv b))] 41)).alloc (.cells #[.int .i64 1, .int .i64 (wrap64 (a.tdiv b))] 41) := by
  have hb0 : (b == 0) = false := beq_eq_false_iff_ne.2 hb
  have HO := Lib.hid (fun W => number_any (wrap64 (a.tdiv b)) W)
  go_enter Try.func47, Try.ntmps47
  go_wp2_with (go_at_call 31; refine (HO.out _).mono ?_; rintro e w' ⟨rfl, rfl⟩)
  exact bodyPost_ret (v := .tuple #[.agg #[.int .i64 1, .int .i64 (wrap64 (a.tdiv b))], .int .i64 0, .bool true]) (by simp [results, Try.results47, go_sem]) rfl ⟨rfl, rfl⟩
set_option maxRecDepth 100000 in
theorem divided_rem (a b : Int) (hb : b ≠ 0) (w : World) : Calls Try.prog 47 #[.string ⟨#[37]⟩, .int .i64 a, .int .i64 b] w fun e w' => e = .returned (.tuple #[.agg #[.int .i64 1, .int .i64 (a.tmod b)], .int .i64 0, .bool true]) ∧ w' = (w.alloc (.cells #[.int .i64 1, .int .i64 (a.tmod b)] 41)).alloc (.cells #[.int .i64 1, .int .i64 (a.tmod b)] 41) := by
  have hb0 : (b == 0) = false := beq_eq_false_iff_ne.2 hb
  have HO := Lib.hid (fun W => number_any (a.tmod b) W)
  go_enter Try.func47, Try.ntmps47
  go_wp2_with (go_at_call 31; refine (HO.out _).mono ?_; rintro e w' ⟨rfl, rfl⟩)
  exact bodyPost_ret (v := .tuple #[.agg #[.int .i64 1, .int .i64 (a.tmod b)], .int .i64 0, .bool true]) (by simp [results, Try.results47, go_sem]) rfl ⟨rfl, rfl⟩
set_option maxRecDepth 100000 in
theorem ofNumbers_any (s : ByteArray) (a b : Int) (w : World) : Calls Try.prog 27 #[.string s, .int .i64 a, .int .i64 b] w (V3 (numR s a b).1.1 (numR s a b).1.2 (numR s a b).2.1 (numR s a b).2.2 w) := by
  by_cases h0 : s = ⟨#[43]⟩
  · subst h0
    have e0 := str_eq ⟨#[43]⟩
    have d1 := str_ne (show (⟨#[43]⟩ : ByteArray) ≠ ⟨#[45]⟩ by decide)
    have d2 := str_ne (show (⟨#[43]⟩ : ByteArray) ≠ ⟨#[42]⟩ by decide)
    have d3 := str_ne (show (⟨#[43]⟩ : ByteArray) ≠ ⟨#[47]⟩ by decide)
    have d4 := str_ne (show (⟨#[43]⟩ : ByteArray) ≠ ⟨#[37]⟩ by decide)
    rw [show numR ⟨#[43]⟩ a b = ((1, wrap64 (a + b)), 0, true) by unfold numR; rw [if_pos rfl]]
    show Calls _ _ _ _ (V3 1 (wrap64 (a + b)) 0 true w)
    have HC := Lib.hid (fun W => calculated_any ⟨#[43]⟩ a b W)
    rw [show calR ⟨#[43]⟩ a b = some (wrap64 (a + b)) by unfold calR; rw [if_pos rfl], show optZ2 (some (wrap64 (a + b))) = (wrap64 (a + b), true) from rfl] at HC
    have HO := Lib.hid (fun W => number_any (wrap64 (a + b)) W)
    go_enter Try.func27, Try.ntmps27
    go_wp2_with (first | (go_at_call 48; refine (HC.out _).mono ?_; rintro e w' ⟨rfl, rfl⟩) | (go_at_call 31; refine (HO.out _).mono ?_; rintro e w' ⟨rfl, rfl⟩))
    exact bodyPost_ret (v := .tuple #[.agg #[.int .i64 1, .int .i64 (wrap64 (a + b))], .int .i64 0, .bool true]) (by simp [results, Try.results27, go_sem]) rfl ⟨rfl, (heap1 _ _).alloc (by simp) _⟩
  · have n0 := str_nl (l := [43]) h0
    by_cases h1 : s = ⟨#[45]⟩
    · subst h1
      have e1 := str_eq ⟨#[45]⟩
      have d0 := str_ne (show (⟨#[45]⟩ : ByteArray) ≠ ⟨#[43]⟩ by decide)
      have d2 := str_ne (show (⟨#[45]⟩ : ByteArray) ≠ ⟨#[42]⟩ by decide)
      have d3 := str_ne (show (⟨#[45]⟩ : ByteArray) ≠ ⟨#[47]⟩ by decide)
      have d4 := str_ne (show (⟨#[45]⟩ : ByteArray) ≠ ⟨#[37]⟩ by decide)
      clear n0 h0
      rw [show numR ⟨#[45]⟩ a b = ((1, wrap64 (a - b)), 0, true) by unfold numR; rw [if_neg (by decide), if_pos rfl]]
      show Calls _ _ _ _ (V3 1 (wrap64 (a - b)) 0 true w)
      have HC := Lib.hid (fun W => calculated_any ⟨#[45]⟩ a b W)
      rw [show calR ⟨#[45]⟩ a b = some (wrap64 (a - b)) by unfold calR; rw [if_neg (by decide), if_pos rfl], show optZ2 (some (wrap64 (a - b))) = (wrap64 (a - b), true) from rfl] at HC
      have HO := Lib.hid (fun W => number_any (wrap64 (a - b)) W)
      go_enter Try.func27, Try.ntmps27
      go_wp2_with (first | (go_at_call 48; refine (HC.out _).mono ?_; rintro e w' ⟨rfl, rfl⟩) | (go_at_call 31; refine (HO.out _).mono ?_; rintro e w' ⟨rfl, rfl⟩))
      exact bodyPost_ret (v := .tuple #[.agg #[.int .i64 1, .int .i64 (wrap64 (a - b))], .int .i64 0, .bool true]) (by simp [results, Try.results27, go_sem]) rfl ⟨rfl, (heap1 _ _).alloc (by simp) _⟩
    · have n1 := str_nl (l := [45]) h1
      by_cases h2 : s = ⟨#[42]⟩
      · subst h2
        have e2 := str_eq ⟨#[42]⟩
        have d0 := str_ne (show (⟨#[42]⟩ : ByteArray) ≠ ⟨#[43]⟩ by decide)
        have d1 := str_ne (show (⟨#[42]⟩ : ByteArray) ≠ ⟨#[45]⟩ by decide)
        have d3 := str_ne (show (⟨#[42]⟩ : ByteArray) ≠ ⟨#[47]⟩ by decide)
        have d4 := str_ne (show (⟨#[42]⟩ : ByteArray) ≠ ⟨#[37]⟩ by decide)
        clear n0 h0
        clear n1 h1
        rw [show numR ⟨#[42]⟩ a b = ((1, wrap64 (a * b)), 0, true) by unfold numR; rw [if_neg (by decide), if_neg (by decide), if_pos rfl]]
        show Calls _ _ _ _ (V3 1 (wrap64 (a * b)) 0 true w)
        have HC := Lib.hid (fun W => calculated_any ⟨#[42]⟩ a b W)
        rw [show calR ⟨#[42]⟩ a b = some (wrap64 (a * b)) by unfold calR; rw [if_neg (by decide), if_neg (by decide), if_pos rfl], show optZ2 (some (wrap64 (a * b))) = (wrap64 (a * b), true) from rfl] at HC
        have HO := Lib.hid (fun W => number_any (wrap64 (a * b)) W)
        go_enter Try.func27, Try.ntmps27
        go_wp2_with (first | (go_at_call 48; refine (HC.out _).mono ?_; rintro e w' ⟨rfl, rfl⟩) | (go_at_call 31; refine (HO.out _).mono ?_; rintro e w' ⟨rfl, rfl⟩))
        exact bodyPost_ret (v := .tuple #[.agg #[.int .i64 1, .int .i64 (wrap64 (a * b))], .int .i64 0, .bool true]) (by simp [results, Try.results27, go_sem]) rfl ⟨rfl, (heap1 _ _).alloc (by simp) _⟩
      · have n2 := str_nl (l := [42]) h2
        by_cases h3 : s = ⟨#[47]⟩
        · subst h3
          have e3 := str_eq ⟨#[47]⟩
          have d0 := str_ne (show (⟨#[47]⟩ : ByteArray) ≠ ⟨#[43]⟩ by decide)
          have d1 := str_ne (show (⟨#[47]⟩ : ByteArray) ≠ ⟨#[45]⟩ by decide)
          have d2 := str_ne (show (⟨#[47]⟩ : ByteArray) ≠ ⟨#[42]⟩ by decide)
          have d4 := str_ne (show (⟨#[47]⟩ : ByteArray) ≠ ⟨#[37]⟩ by decide)
          clear n0 h0
          clear n1 h1
          clear n2 h2
          rw [show numR ⟨#[47]⟩ a b = divR (wrap64 (a.tdiv b)) b by unfold numR; rw [if_neg (by decide), if_neg (by decide), if_neg (by decide), if_pos rfl]]
          by_cases hb : b = 0
          · subst hb
            show Calls _ _ _ _ (V3 0 0 1 true w)
            have HC := Lib.hid (fun W => divided_zero ⟨#[47]⟩ a W)
            go_enter Try.func27, Try.ntmps27
            go_wp2_with (go_at_call 47; refine (HC.out _).mono ?_; rintro e w' ⟨rfl, rfl⟩)
            exact bodyPost_ret (v := .tuple #[.agg #[.int .i64 0, .int .i64 0], .int .i64 1, .bool true]) (by simp [results, Try.results27, go_sem]) rfl ⟨rfl, (heap1 _ _).alloc (by simp) _⟩
          · rw [divR, if_neg hb]
            show Calls _ _ _ _ (V3 1 (wrap64 (a.tdiv b)) 0 true w)
            have hb0 : (b == 0) = false := beq_eq_false_iff_ne.2 hb
            have HC := Lib.hid (fun W => divided_quo a b hb W)
            go_enter Try.func27, Try.ntmps27
            go_wp2_with (go_at_call 47; refine (HC.out _).mono ?_; rintro e w' ⟨rfl, rfl⟩)
            exact bodyPost_ret (v := .tuple #[.agg #[.int .i64 1, .int .i64 (wrap64 (a.tdiv b))], .int .i64 0, .bool true]) (by simp [results, Try.results27, go_sem]) rfl ⟨rfl, ((heap1 _ _).alloc (by simp) _).alloc (by rw [World.size_alloc, World.size_alloc]; omega) _⟩
        · have n3 := str_nl (l := [47]) h3
          by_cases h4 : s = ⟨#[37]⟩
          · subst h4
            have e4 := str_eq ⟨#[37]⟩
            have d0 := str_ne (show (⟨#[37]⟩ : ByteArray) ≠ ⟨#[43]⟩ by decide)
            have d1 := str_ne (show (⟨#[37]⟩ : ByteArray) ≠ ⟨#[45]⟩ by decide)
            have d2 := str_ne (show (⟨#[37]⟩ : ByteArray) ≠ ⟨#[42]⟩ by decide)
            have d3 := str_ne (show (⟨#[37]⟩ : ByteArray) ≠ ⟨#[47]⟩ by decide)
            clear n0 h0
            clear n1 h1
            clear n2 h2
            clear n3 h3
            rw [show numR ⟨#[37]⟩ a b = divR (a.tmod b) b by unfold numR; rw [if_neg (by decide), if_neg (by decide), if_neg (by decide), if_neg (by decide), if_pos rfl]]
            by_cases hb : b = 0
            · subst hb
              show Calls _ _ _ _ (V3 0 0 1 true w)
              have HC := Lib.hid (fun W => divided_zero ⟨#[37]⟩ a W)
              go_enter Try.func27, Try.ntmps27
              go_wp2_with (go_at_call 47; refine (HC.out _).mono ?_; rintro e w' ⟨rfl, rfl⟩)
              exact bodyPost_ret (v := .tuple #[.agg #[.int .i64 0, .int .i64 0], .int .i64 1, .bool true]) (by simp [results, Try.results27, go_sem]) rfl ⟨rfl, (heap1 _ _).alloc (by simp) _⟩
            · rw [divR, if_neg hb]
              show Calls _ _ _ _ (V3 1 (a.tmod b) 0 true w)
              have hb0 : (b == 0) = false := beq_eq_false_iff_ne.2 hb
              have HC := Lib.hid (fun W => divided_rem a b hb W)
              go_enter Try.func27, Try.ntmps27
              go_wp2_with (go_at_call 47; refine (HC.out _).mono ?_; rintro e w' ⟨rfl, rfl⟩)
              exact bodyPost_ret (v := .tuple #[.agg #[.int .i64 1, .int .i64 (a.tmod b)], .int .i64 0, .bool true]) (by simp [results, Try.results27, go_sem]) rfl ⟨rfl, ((heap1 _ _).alloc (by simp) _).alloc (by rw [World.size_alloc, World.size_alloc]; omega) _⟩
          · have n4 := str_nl (l := [37]) h4
            rw [show numR s a b = optT (cmpR s a b) by unfold numR; rw [if_neg h0, if_neg h1, if_neg h2, if_neg h3, if_neg h4]]
            have HC := Lib.hid (fun W => calculated_any s a b W)
            rw [show calR s a b = none by unfold calR; rw [if_neg h0, if_neg h1, if_neg h2], show optZ2 none = (0, false) from rfl] at HC
            have HP := Lib.hid (fun W => compared_any s a b W)
            clear h0 h1 h2 h3 h4
            generalize cmpR s a b = c at *
            cases c with
            | none =>
              show Calls _ _ _ _ (V3 0 0 0 false w)
              rw [show optB2 none = (false, false) from rfl] at HP
              go_enter Try.func27, Try.ntmps27
              go_wp2_with (first | (go_at_call 48; refine (HC.out _).mono ?_; rintro e w' ⟨rfl, rfl⟩) | (go_at_call 49; refine (HP.out _).mono ?_; rintro e w' ⟨rfl, rfl⟩))
              exact bodyPost_ret (v := .tuple #[.agg #[.int .i64 0, .int .i64 0], .int .i64 0, .bool false]) (by simp [results, Try.results27, go_sem]) rfl ⟨rfl, (heap1 _ _)⟩
            | some t =>
              show Calls _ _ _ _ (V3 2 (tB t) 0 true w)
              rw [show optB2 (some t) = (t, true) from rfl] at HP
              have HO := Lib.hid (fun W => truth_any t W)
              go_enter Try.func27, Try.ntmps27
              go_wp2_with (first | (go_at_call 48; refine (HC.out _).mono ?_; rintro e w' ⟨rfl, rfl⟩) | (go_at_call 49; refine (HP.out _).mono ?_; rintro e w' ⟨rfl, rfl⟩) | (go_at_call 50; refine (HO.out _).mono ?_; rintro e w' ⟨rfl, rfl⟩))
              exact bodyPost_ret (v := .tuple #[.agg #[.int .i64 2, .int .i64 (tB t)], .int .i64 0, .bool true]) (by simp [results, Try.results27, go_sem]) rfl ⟨rfl, (heap1 _ _).alloc (by simp) _⟩
end Go.Proofs.Ytignojhijmamhaa.Va
namespace Go.Proofs.Ytignojhijmamhaa.Va
open Go Go.RowKit
set_option maxRecDepth 100000 in
theorem unary_any (s : ByteArray) (k n : Int) (w : World) : Calls Try.prog 71 #[.string s, .agg #[.int .i64 k, .int .i64 n]] w (V2 (unR s k n).1.1 (unR s k n).1.2 (unR s k n).2 w) := by
  by_cases h0 : s = ⟨#[45]⟩
  · subst h0
    have e0 := str_eq ⟨#[45]⟩
    have d1 := str_ne (show (⟨#[45]⟩ : ByteArray) ≠ ⟨#[33]⟩ by decide)
    by_cases hk : k = 1
    · subst hk
      rw [show unR ⟨#[45]⟩ 1 n = ((1, wrap64 (-n)), true) from rfl]
      have HO := Lib.hid (fun W => number_any (wrap64 (-n)) W)
      go_enter Try.func71, Try.ntmps71
      go_wp2_with (go_at_call 31; refine (HO.out _).mono ?_; rintro e w' ⟨rfl, rfl⟩)
      exact bodyPost_ret (v := .tuple #[.agg #[.int .i64 1, .int .i64 (wrap64 (-n))], .bool true]) (by simp [results, Try.results71, go_sem]) rfl ⟨rfl, ((heap1 _ _).alloc (by simp only [World.size_alloc]; omega) _).alloc (by simp only [World.size_alloc]; omega) _⟩
    · have hk0 : (k == 1) = false := beq_eq_false_iff_ne.2 hk
      rw [show unR ⟨#[45]⟩ k n = ((0, 0), false) by unfold unR; rw [if_neg (fun h => hk h.2), if_neg (fun h => absurd h.1 (by decide))]]
      go_enter Try.func71, Try.ntmps71
      go_wp2
      exact bodyPost_ret (v := .tuple #[.agg #[.int .i64 0, .int .i64 0], .bool false]) (by simp [results, Try.results71, go_sem]) rfl ⟨rfl, (heap1 _ _).alloc (by simp only [World.size_alloc]; omega) _⟩
  · have n0 := str_nl (l := [45]) h0
    by_cases h1 : s = ⟨#[33]⟩
    · subst h1
      clear n0 h0
      have e1 := str_eq ⟨#[33]⟩
      by_cases hk : k = 2
      · subst hk
        rw [show unR ⟨#[33]⟩ 2 n = ((2, tB (n == 0)), true) from rfl]
        have HO := Lib.hid (fun W => truth_any (n == 0) W)
        have HI := Lib.hid (fun W => isTrue_any 2 n W)
        rw [show (n != 0) = !(n == 0) from rfl] at HI
        generalize (n == 0) = bz at *
        have hbb : (!(!bz)) = bz := by cases bz <;> rfl
        have hX := (Bx.new w 41 [.int .i64 2, .int .i64 n])
        have hY := Bx.new (w.alloc (.cells #[.int .i64 2, .int .i64 n] 41)) 41 [.int .i64 0, .int .i64 0]
        rw [World.size_alloc] at hY
        go_enter Try.func71, Try.ntmps71
        go_wp2_with (go_at_call 29; refine (HI.out _).mono ?_)
        rintro e w1 ⟨rfl, hb1⟩
        have hX1 := hY.below hb1 hY.lt
        have c0 := (hX1.cell 0).trans rfl
        have c1 := (hX1.cell 1).trans rfl
        have f0 := hX1.frozen 0
        have f1 := hX1.frozen 1
        have hz := hX1.lt
        have HB := Lib.hid (bt ((heap1 w _).alloc (by simp) _) hb1)
        clear hb1 hX hY hX1
        go_wp2_with (go_at_call 50; refine (HO.out _).mono ?_; rintro e w' ⟨rfl, rfl⟩)
        exact bodyPost_ret (v := .tuple #[.agg #[.int .i64 2, .int .i64 (tB bz)], .bool true]) (by simp [results, Try.results71, go_sem, c0, c1, hz]) rfl ⟨rfl, (below2 HB.out (by omega)).alloc (by simpa using HB.out.size) _⟩
      · have hk0 : (k == 2) = false := beq_eq_false_iff_ne.2 hk
        rw [show unR ⟨#[33]⟩ k n = ((0, 0), false) by unfold unR; rw [if_neg (fun h => absurd h.1 (by decide)), if_neg (fun h => hk h.2)]]
        go_enter Try.func71, Try.ntmps71
        go_wp2
        exact bodyPost_ret (v := .tuple #[.agg #[.int .i64 0, .int .i64 0], .bool false]) (by simp [results, Try.results71, go_sem]) rfl ⟨rfl, (heap1 _ _).alloc (by simp only [World.size_alloc]; omega) _⟩
    · have n1 := str_nl (l := [33]) h1
      rw [show unR s k n = ((0, 0), false) by unfold unR; rw [if_neg (fun h => h0 h.1), if_neg (fun h => h1 h.1)]]
      clear h0 h1
      go_enter Try.func71, Try.ntmps71
      go_wp2
      exact bodyPost_ret (v := .tuple #[.agg #[.int .i64 0, .int .i64 0], .bool false]) (by simp [results, Try.results71, go_sem]) rfl ⟨rfl, (heap1 _ _).alloc (by simp only [World.size_alloc]; omega) _⟩
end Go.Proofs.Ytignojhijmamhaa.Va
namespace Go.Proofs.Ytignojhijmamhaa.Va
open Go Go.RowKit
set_option maxRecDepth 100000 in
set_option maxHeartbeats 1000000 in
theorem binary_any (s : ByteArray) (ka na kb nb : Int) (w : World) : Calls Try.prog 11 #[.string s, .agg #[.int .i64 ka, .int .i64 na], .agg #[.int .i64 kb, .int .i64 nb]] w (V3 (binR s ka na kb nb).1.1 (binR s ka na kb nb).1.2 (binR s ka na kb nb).2.1 (binR s ka na kb nb).2.2 w) := by
  have hX0 := Bx.new w 41 [.int .i64 ka, .int .i64 na]
  have hX1 := Bx.new (w.alloc (.cells #[.int .i64 ka, .int .i64 na] 41)) 41 [.int .i64 kb, .int .i64 nb]
  have hX2 := Bx.new ((w.alloc (.cells #[.int .i64 ka, .int .i64 na] 41)).alloc (.cells #[.int .i64 kb, .int .i64 nb] 41)) 41 [.int .i64 0, .int .i64 0]
  rw [World.size_alloc] at hX1 hX2
  rw [World.size_alloc] at hX2
  have hX0' := (hX0.alloc (.cells #[.int .i64 kb, .int .i64 nb] 41)).alloc (.cells #[.int .i64 0, .int .i64 0] 41)
  have hX1' := hX1.alloc (.cells #[.int .i64 0, .int .i64 0] 41)
  have HB := Lib.hid (show Below w.heap.size w (((w.alloc (.cells #[.int .i64 ka, .int .i64 na] 41)).alloc (.cells #[.int .i64 kb, .int .i64 nb] 41)).alloc (.cells #[.int .i64 0, .int .i64 0] 41)) from ((heap1 _ _).alloc (by simp) _).alloc (by simp only [World.size_alloc]; omega) _)
  obtain ⟨W, hW⟩ : ∃ W, ((w.alloc (.cells #[.int .i64 ka, .int .i64 na] 41)).alloc (.cells #[.int .i64 kb, .int .i64 nb] 41)).alloc (.cells #[.int .i64 0, .int .i64 0] 41) = W := ⟨_, rfl⟩
  have HX0 := Lib.hid (show Bx W w.heap.size 41 [.int .i64 ka, .int .i64 na] by rw [← hW]; exact hX0')
  have HX1 := Lib.hid (show Bx W (w.heap.size + 1) 41 [.int .i64 kb, .int .i64 nb] by rw [← hW]; exact hX1')
  have HX2 := Lib.hid (show Bx W (w.heap.size + 1 + 1) 41 [.int .i64 0, .int .i64 0] by rw [← hW]; exact hX2)
  rw [hW] at HB
  clear hX0 hX1 hX2 hX0' hX1'
  have a0 := (HX0.out.cell 0).trans rfl
  have a1 := (HX0.out.cell 1).trans rfl
  have b0 := (HX1.out.cell 0).trans rfl
  have b1 := (HX1.out.cell 1).trans rfl
  have r0 := (HX2.out.cell 0).trans rfl
  have r1 := (HX2.out.cell 1).trans rfl
  have f0 := HX2.out.frozen 0
  have f1 := HX2.out.frozen 1
  by_cases h1 : ka = 1 ∧ kb = 1
  · obtain ⟨rfl, rfl⟩ := h1
    have HN := Lib.hid (fun W => ofNumbers_any s na nb W)
    rw [show binR s 1 na 1 nb = numR s na nb from rfl]
    generalize numR s na nb = R at *
    obtain ⟨⟨k, n⟩, x, ok⟩ := R
    dsimp only at HN ⊢
    go_enter Try.func11, Try.ntmps11
    go_wp2_with (go_at_call 27; refine (HN.out _).mono ?_)
    rintro e w1 ⟨rfl, hb1⟩
    have hR := HX2.out.below hb1 HX2.out.lt
    have c0 := (hR.cell 0).trans rfl
    have c1 := (hR.cell 1).trans rfl
    have g0 := hR.frozen 0
    have g1 := hR.frozen 1
    have HB1 := Lib.hid (bt HB.out hb1)
    clear a0 a1 b0 b1 r0 r1 f0 f1 hb1 hR
    go_wp2
    exact bodyPost_ret (v := .tuple #[.agg #[.int .i64 k, .int .i64 n], .int .i64 x, .bool ok]) (by simp [results, Try.results11, go_sem, c0, c1]) rfl ⟨rfl, below2 HB1.out (by omega)⟩
  · by_cases h2 : ka = 2 ∧ kb = 2
    · obtain ⟨rfl, rfl⟩ := h2
      have HN := Lib.hid (fun W => ofTruths_any s (na != 0) (nb != 0) W)
      have HI0 := Lib.hid (fun W => isTrue_any 2 na W)
      have HI1 := Lib.hid (fun W => isTrue_any 2 nb W)
      rw [show binR s 2 na 2 nb = optT (truR s (na != 0) (nb != 0)) from rfl]
      generalize hp : (na != 0) = p at *
      generalize hq : (nb != 0) = q at *
      have hopt : ∀ t, optT t = ((optP t).1, 0, (optP t).2) := fun t => by cases t <;> rfl
      rw [hopt]
      generalize optP (truR s p q) = R at *
      obtain ⟨⟨k, n⟩, ok⟩ := R
      dsimp only at HN ⊢
      clear h1 hp hq hopt
      go_enter Try.func11, Try.ntmps11
      go_upto_region 4 with (fail)
      go_cut [9, 10] (fun s9 s10 wx => ∃ g : Nat, s9 = .pointer (some ⟨g, 0, none⟩) ∧ s10 = .bool ok ∧ wx.cell? ⟨g, 0, none⟩ = some (.int .i64 k) ∧ wx.cell? ⟨g, 1, none⟩ = some (.int .i64 n) ∧ Below W.heap.size W wx)
      case first =>
        have l0 : ∀ w', Below W.heap.size W w' → w'.cell? ⟨w.heap.size, 0, none⟩ = some (.int .i64 2) := fun w' q => ((HX0.out.below q HX0.out.lt).cell 0).trans rfl
        have l1 : ∀ w', Below W.heap.size W w' → w'.cell? ⟨w.heap.size, 1, none⟩ = some (.int .i64 na) := fun w' q => ((HX0.out.below q HX0.out.lt).cell 1).trans rfl
        have l2 : ∀ w', Below W.heap.size W w' → w'.cell? ⟨w.heap.size + 1, 0, none⟩ = some (.int .i64 2) := fun w' q => ((HX1.out.below q HX1.out.lt).cell 0).trans rfl
        have l3 : ∀ w', Below W.heap.size W w' → w'.cell? ⟨w.heap.size + 1, 1, none⟩ = some (.int .i64 nb) := fun w' q => ((HX1.out.below q HX1.out.lt).cell 1).trans rfl
        clear a0 a1 b0 b1 r0 r1 f0 f1
        go_region_held3 (fun w' => Below W.heap.size W w') (first | exact (Below.refl _ _).drew | exact bt (by assumption) (by assumption) | exact realloc (by assumption) (by assumption) | exact below2 (by assumption) (by assumption) | exact below2 (by assumption) (Nat.le_refl _) | exact Below.alloc (by assumption) (Below.size (by assumption)) _ | go_keep)
          (first | (go_at_call_of 29 (Value.agg #[.int .i64 2, .int .i64 na]); refine (HI0.out _).mono ?_; rintro e w1 ⟨rfl, hb1⟩; obtain ⟨hcc, hff, hnn⟩ := bcell3 hb1; have hzz : W.heap.size ≤ w1.heap.size := (bt (by assumption) hb1).size; try (have hyy : W.heap.size < w1.heap.size := (by have hq := hb1.size; (try rw [World.size_alloc] at hq); first | exact Nat.lt_of_lt_of_le (by assumption) hq | (simp at hq; omega)))) | (go_at_call_of 29 (Value.agg #[.int .i64 2, .int .i64 nb]); refine (HI1.out _).mono ?_; rintro e w1 ⟨rfl, hb1⟩; obtain ⟨hcc, hff, hnn⟩ := bcell3 hb1; have hzz : W.heap.size ≤ w1.heap.size := (bt (by assumption) hb1).size; try (have hyy : W.heap.size < w1.heap.size := (by have hq := hb1.size; (try rw [World.size_alloc] at hq); first | exact Nat.lt_of_lt_of_le (by assumption) hq | (simp at hq; omega)))) | (go_at_call 28; refine (HN.out _).mono ?_; rintro e w1 ⟨rfl, hb1⟩; obtain ⟨hcc, hff, hnn⟩ := bcell3 hb1; have hzz : W.heap.size ≤ w1.heap.size := (bt (by assumption) hb1).size; try (have hyy : W.heap.size < w1.heap.size := (by have hq := hb1.size; (try rw [World.size_alloc] at hq); first | exact Nat.lt_of_lt_of_le (by assumption) hq | (simp at hq; omega)))))
        all_goals (go_wp2_with fail; go_meet; exact ⟨_, rfl, rfl, by simp (maxDischargeDepth := 8) [go_sem, *], by simp (maxDischargeDepth := 8) [go_sem, *], by assumption⟩)
      case rest =>
        obtain ⟨g, rfl, rfl, d0, d1, hb⟩ := hcut
        have hR := HX2.out.below hb HX2.out.lt
        have c0 := (hR.cell 0).trans rfl
        have c1 := (hR.cell 1).trans rfl
        have g0 := hR.frozen 0
        have g1 := hR.frozen 1
        have HB1 := Lib.hid (bt HB.out hb)
        clear a0 a1 b0 b1 r0 r1 f0 f1 hb hR
        go_wp2
        exact bodyPost_ret (v := .tuple #[.agg #[.int .i64 k, .int .i64 n], .int .i64 0, .bool ok]) (by simp [results, Try.results11, go_sem, c0, c1]) rfl ⟨rfl, below2 HB1.out (by omega)⟩
    · rw [show binR s ka na kb nb = ((0, 0), 0, false) by unfold binR; rw [if_neg h1, if_neg h2]]
      have HH := Lib.hid (And.intro h1 h2)
      clear h1 h2
      cases p1 : (ka == 1) <;> cases p2 : (kb == 1) <;> cases p3 : (ka == 2) <;> cases p4 : (kb == 2) <;> first
        | exact (HH.out.1 ⟨by simpa using p1, by simpa using p2⟩).elim
        | exact (HH.out.2 ⟨by simpa using p3, by simpa using p4⟩).elim
        | (go_enter Try.func11, Try.ntmps11; go_wp2; exact bodyPost_ret (v := .tuple #[.agg #[.int .i64 0, .int .i64 0], .int .i64 0, .bool false]) (by simp [results, Try.results11, go_sem, r0, r1]) rfl ⟨rfl, below2 HB.out (by omega)⟩)
end Go.Proofs.Ytignojhijmamhaa.Va
