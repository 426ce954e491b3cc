/- PROVED here: the contract of the document's kids, at most kinds. No condition but those in each theorem's own head. -/
import Derived.Test.YtcnmkmdedeiffaaTj
namespace Go.Proofs.Ytcnmkmdedeiffaa
open Go Go.RowKit

def kidB (kd : Int) (l : List Int) : Bool :=
  if kd = 1 then risB l 2 3 0 else if kd = 3 then risB l 4 5 6 else if kd = 6 then l.all stmB
  else if kd = 7 ∨ kd = 15 ∨ kd = 17 ∨ kd = 23 ∨ kd = 26 then decide (l.length = 1) && allB l
  else if kd = 8 ∨ kd = 27 then decide (l.length = 2) && allB l
  else if kd = 9 then decide (l.length = 1) && decide (l.getD 0 0 = 18)
  else if kd = 10 then decide (l.length = 2) && decide (l.getD 0 0 = 18) && expB (l.getD 1 0)
  else if kd = 11 then decide (l.length = 3) && expB (l.getD 0 0) && decide (l.getD 1 0 = 6) && decide (l.getD 2 0 = 6)
  else if kd = 12 then decide (l.length = 2) && expB (l.getD 0 0) && decide (l.getD 1 0 = 6)
  else if kd = 13 then decide (1 ≤ l.length) && decide (l.getD 0 0 = 19) && allB (l.drop 1)
  else if kd = 14 then decide (l.length ≤ 1) && allB l
  else if kd = 16 then decide (l.length = 2) && decide (l.getD 0 0 = 6) && decide (l.getD 1 0 = 6)
  else decide (l.length = 0)
theorem len2 : ∀ {l : List Int}, 2 = l.length → ∃ x y, l = [x, y]
  | [x, y], _ => ⟨x, y, rfl⟩
theorem len3 : ∀ {l : List Int}, 3 = l.length → ∃ x y z, l = [x, y, z]
  | [x, y, z], _ => ⟨x, y, z, rfl⟩
set_option maxRecDepth 100000 in
set_option maxHeartbeats 1500000 in
theorem kid_1 (K : Option Addr) (n c : Nat) (l : List Int) (w : World) (hI : Ints w K l) (hn : n = l.length) (hl : n ≤ 4000) : Calls Try.prog 35 #[.int .i64 1, .slice K n c] w (BPost (kidB 1 l) w) := by
  have HC := Lib.hid (fun w' (h : Ints w' K l) => rises_any K n c l 2 3 0 w' h hn hl)
  have HI := Lib.hid hI
  clear hI hn
  have HE := Lib.hid (show kidB 1 l = risB l 2 3 0 by unfold kidB; simp)
  generalize risB l 2 3 0 = v at *
  go_enter Try.func35, Try.ntmps35
  go_wp2_with (go_at_call 51; refine (HC.out w HI.out).mono ?_; rintro e w1 ⟨rfl, hb1⟩)
  go_ret
  exact ⟨ret_bool HE.out.symm, hb1⟩
set_option maxRecDepth 100000 in
set_option maxHeartbeats 1500000 in
theorem kid_3 (K : Option Addr) (n c : Nat) (l : List Int) (w : World) (hI : Ints w K l) (hn : n = l.length) (hl : n ≤ 4000) : Calls Try.prog 35 #[.int .i64 3, .slice K n c] w (BPost (kidB 3 l) w) := by
  have HC := Lib.hid (fun w' (h : Ints w' K l) => rises_any K n c l 4 5 6 w' h hn hl)
  have HI := Lib.hid hI
  clear hI hn
  have HE := Lib.hid (show kidB 3 l = risB l 4 5 6 by unfold kidB; simp)
  generalize risB l 4 5 6 = v at *
  go_enter Try.func35, Try.ntmps35
  go_wp2_with (go_at_call 51; refine (HC.out w HI.out).mono ?_; rintro e w1 ⟨rfl, hb1⟩)
  go_ret
  exact ⟨ret_bool HE.out.symm, hb1⟩
set_option maxRecDepth 100000 in
set_option maxHeartbeats 1500000 in
theorem kid_7 (K : Option Addr) (n c : Nat) (l : List Int) (w : World) (hI : Ints w K l) (hn : n = l.length) (hl : n ≤ 4000) : Calls Try.prog 35 #[.int .i64 7, .slice K n c] w (BPost (kidB 7 l) w) := by
  by_cases h1 : n = 1
  · have HC := Lib.hid (fun w' (h : Ints w' K l) => all_any K n c l w' h hn hl)
    have HI := Lib.hid hI
    have HE := Lib.hid (show kidB 7 l = allB l by unfold kidB; simp [← hn, h1])
    clear hI hn
    subst h1
    generalize allB l = v at *
    go_enter Try.func35, Try.ntmps35
    go_wp2_with (go_at_call 53; refine (HC.out w HI.out).mono ?_; rintro e w1 ⟨rfl, hb1⟩)
    go_ret
    exact ⟨ret_bool HE.out.symm, hb1⟩
  · have HE := Lib.hid (show kidB 7 l = false by unfold kidB; simp [← hn, h1])
    have q1 : ((n : Int) == 1) = false := by simp; omega
    clear hI hn
    go_enter Try.func35, Try.ntmps35
    go_wp2
    go_ret
    exact ⟨ret_bool HE.out.symm, Below.refl _ _⟩
set_option maxRecDepth 100000 in
set_option maxHeartbeats 1500000 in
theorem kid_15 (K : Option Addr) (n c : Nat) (l : List Int) (w : World) (hI : Ints w K l) (hn : n = l.length) (hl : n ≤ 4000) : Calls Try.prog 35 #[.int .i64 15, .slice K n c] w (BPost (kidB 15 l) w) := by
  by_cases h1 : n = 1
  · have HC := Lib.hid (fun w' (h : Ints w' K l) => all_any K n c l w' h hn hl)
    have HI := Lib.hid hI
    have HE := Lib.hid (show kidB 15 l = allB l by unfold kidB; simp [← hn, h1])
    clear hI hn
    subst h1
    generalize allB l = v at *
    go_enter Try.func35, Try.ntmps35
    go_wp2_with (go_at_call 53; refine (HC.out w HI.out).mono ?_; rintro e w1 ⟨rfl, hb1⟩)
    go_ret
    exact ⟨ret_bool HE.out.symm, hb1⟩
  · have HE := Lib.hid (show kidB 15 l = false by unfold kidB; simp [← hn, h1])
    have q1 : ((n : Int) == 1) = false := by simp; omega
    clear hI hn
    go_enter Try.func35, Try.ntmps35
    go_wp2
    go_ret
    exact ⟨ret_bool HE.out.symm, Below.refl _ _⟩
set_option maxRecDepth 100000 in
set_option maxHeartbeats 1500000 in
theorem kid_17 (K : Option Addr) (n c : Nat) (l : List Int) (w : World) (hI : Ints w K l) (hn : n = l.length) (hl : n ≤ 4000) : Calls Try.prog 35 #[.int .i64 17, .slice K n c] w (BPost (kidB 17 l) w) := by
  by_cases h1 : n = 1
  · have HC := Lib.hid (fun w' (h : Ints w' K l) => all_any K n c l w' h hn hl)
    have HI := Lib.hid hI
    have HE := Lib.hid (show kidB 17 l = allB l by unfold kidB; simp [← hn, h1])
    clear hI hn
    subst h1
    generalize allB l = v at *
    go_enter Try.func35, Try.ntmps35
    go_wp2_with (go_at_call 53; refine (HC.out w HI.out).mono ?_; rintro e w1 ⟨rfl, hb1⟩)
    go_ret
    exact ⟨ret_bool HE.out.symm, hb1⟩
  · have HE := Lib.hid (show kidB 17 l = false by unfold kidB; simp [← hn, h1])
    have q1 : ((n : Int) == 1) = false := by simp; omega
    clear hI hn
    go_enter Try.func35, Try.ntmps35
    go_wp2
    go_ret
    exact ⟨ret_bool HE.out.symm, Below.refl _ _⟩
set_option maxRecDepth 100000 in
set_option maxHeartbeats 1500000 in
theorem kid_23 (K : Option Addr) (n c : Nat) (l : List Int) (w : World) (hI : Ints w K l) (hn : n = l.length) (hl : n ≤ 4000) : Calls Try.prog 35 #[.int .i64 23, .slice K n c] w (BPost (kidB 23 l) w) := by
  by_cases h1 : n = 1
  · have HC := Lib.hid (fun w' (h : Ints w' K l) => all_any K n c l w' h hn hl)
    have HI := Lib.hid hI
    have HE := Lib.hid (show kidB 23 l = allB l by unfold kidB; simp [← hn, h1])
    clear hI hn
    subst h1
    generalize allB l = v at *
    go_enter Try.func35, Try.ntmps35
    go_wp2_with (go_at_call 53; refine (HC.out w HI.out).mono ?_; rintro e w1 ⟨rfl, hb1⟩)
    go_ret
    exact ⟨ret_bool HE.out.symm, hb1⟩
  · have HE := Lib.hid (show kidB 23 l = false by unfold kidB; simp [← hn, h1])
    have q1 : ((n : Int) == 1) = false := by simp; omega
    clear hI hn
    go_enter Try.func35, Try.ntmps35
    go_wp2
    go_ret
    exact ⟨ret_bool HE.out.symm, Below.refl _ _⟩
set_option maxRecDepth 100000 in
set_option maxHeartbeats 1500000 in
theorem kid_26 (K : Option Addr) (n c : Nat) (l : List Int) (w : World) (hI : Ints w K l) (hn : n = l.length) (hl : n ≤ 4000) : Calls Try.prog 35 #[.int .i64 26, .slice K n c] w (BPost (kidB 26 l) w) := by
  by_cases h1 : n = 1
  · have HC := Lib.hid (fun w' (h : Ints w' K l) => all_any K n c l w' h hn hl)
    have HI := Lib.hid hI
    have HE := Lib.hid (show kidB 26 l = allB l by unfold kidB; simp [← hn, h1])
    clear hI hn
    subst h1
    generalize allB l = v at *
    go_enter Try.func35, Try.ntmps35
    go_wp2_with (go_at_call 53; refine (HC.out w HI.out).mono ?_; rintro e w1 ⟨rfl, hb1⟩)
    go_ret
    exact ⟨ret_bool HE.out.symm, hb1⟩
  · have HE := Lib.hid (show kidB 26 l = false by unfold kidB; simp [← hn, h1])
    have q1 : ((n : Int) == 1) = false := by simp; omega
    clear hI hn
    go_enter Try.func35, Try.ntmps35
    go_wp2
    go_ret
    exact ⟨ret_bool HE.out.symm, Below.refl _ _⟩
set_option maxRecDepth 100000 in
set_option maxHeartbeats 1500000 in
theorem kid_8 (K : Option Addr) (n c : Nat) (l : List Int) (w : World) (hI : Ints w K l) (hn : n = l.length) (hl : n ≤ 4000) : Calls Try.prog 35 #[.int .i64 8, .slice K n c] w (BPost (kidB 8 l) w) := by
  by_cases h1 : n = 2
  · have HC := Lib.hid (fun w' (h : Ints w' K l) => all_any K n c l w' h hn hl)
    have HI := Lib.hid hI
    have HE := Lib.hid (show kidB 8 l = allB l by unfold kidB; simp [← hn, h1])
    clear hI hn
    subst h1
    generalize allB l = v at *
    go_enter Try.func35, Try.ntmps35
    go_wp2_with (go_at_call 53; refine (HC.out w HI.out).mono ?_; rintro e w1 ⟨rfl, hb1⟩)
    go_ret
    exact ⟨ret_bool HE.out.symm, hb1⟩
  · have HE := Lib.hid (show kidB 8 l = false by unfold kidB; simp [← hn, h1])
    have q1 : ((n : Int) == 2) = false := by simp; omega
    clear hI hn
    go_enter Try.func35, Try.ntmps35
    go_wp2
    go_ret
    exact ⟨ret_bool HE.out.symm, Below.refl _ _⟩
set_option maxRecDepth 100000 in
set_option maxHeartbeats 1500000 in
theorem kid_27 (K : Option Addr) (n c : Nat) (l : List Int) (w : World) (hI : Ints w K l) (hn : n = l.length) (hl : n ≤ 4000) : Calls Try.prog 35 #[.int .i64 27, .slice K n c] w (BPost (kidB 27 l) w) := by
  by_cases h1 : n = 2
  · have HC := Lib.hid (fun w' (h : Ints w' K l) => all_any K n c l w' h hn hl)
    have HI := Lib.hid hI
    have HE := Lib.hid (show kidB 27 l = allB l by unfold kidB; simp [← hn, h1])
    clear hI hn
    subst h1
    generalize allB l = v at *
    go_enter Try.func35, Try.ntmps35
    go_wp2_with (go_at_call 53; refine (HC.out w HI.out).mono ?_; rintro e w1 ⟨rfl, hb1⟩)
    go_ret
    exact ⟨ret_bool HE.out.symm, hb1⟩
  · have HE := Lib.hid (show kidB 27 l = false by unfold kidB; simp [← hn, h1])
    have q1 : ((n : Int) == 2) = false := by simp; omega
    clear hI hn
    go_enter Try.func35, Try.ntmps35
    go_wp2
    go_ret
    exact ⟨ret_bool HE.out.symm, Below.refl _ _⟩
set_option maxRecDepth 100000 in
set_option maxHeartbeats 1500000 in
theorem kid_14 (K : Option Addr) (n c : Nat) (l : List Int) (w : World) (hI : Ints w K l) (hn : n = l.length) (hl : n ≤ 4000) : Calls Try.prog 35 #[.int .i64 14, .slice K n c] w (BPost (kidB 14 l) w) := by
  by_cases h1 : n ≤ 1
  · have HC := Lib.hid (fun w' (h : Ints w' K l) => all_any K n c l w' h hn hl)
    have HI := Lib.hid hI
    have HE := Lib.hid (show kidB 14 l = allB l by unfold kidB; simp [← hn, h1])
    have q1 : (n : Int) ≤ 1 := by omega
    clear hI hn
    generalize allB l = v at *
    go_enter Try.func35, Try.ntmps35
    go_wp2_with (go_at_call 53; refine (HC.out w HI.out).mono ?_; rintro e w1 ⟨rfl, hb1⟩)
    go_ret
    exact ⟨ret_bool HE.out.symm, hb1⟩
  · have HE := Lib.hid (show kidB 14 l = false by unfold kidB; simp [← hn, h1])
    have q1 : ¬ (n : Int) ≤ 1 := by omega
    clear hI hn
    go_enter Try.func35, Try.ntmps35
    go_wp2
    go_ret
    exact ⟨ret_bool HE.out.symm, Below.refl _ _⟩
set_option maxRecDepth 100000 in
set_option maxHeartbeats 1500000 in
theorem kid_9 (K : Option Addr) (n c : Nat) (l : List Int) (w : World) (hI : Ints w K l) (hn : n = l.length) (hl : n ≤ 4000) : Calls Try.prog 35 #[.int .i64 9, .slice K n c] w (BPost (kidB 9 l) w) := by
  by_cases h1 : n = 1
  · subst h1
    obtain ⟨x, rfl⟩ : ∃ x, l = [x] := by
      exact List.length_eq_one_iff.1 hn.symm
    obtain ⟨bK, oK, rfl, hbK, hcK⟩ := hI (by show 0 < 1; omega)
    have c0 := hcK 0 (by show 0 < 1; omega)
    simp only [List.getElem_cons_zero, Nat.add_zero] at c0
    clear hcK hn
    by_cases g0 : x = 18
    · subst g0
      have HE := Lib.hid (show kidB 9 [18] = true by unfold kidB; simp)
      go_enter Try.func35, Try.ntmps35
      go_wp2
      go_ret
      exact ⟨ret_bool HE.out.symm, Below.refl _ _⟩
    · have q0 : (x == 18) = false := by simpa using g0
      have HE := Lib.hid (show kidB 9 [x] = false by unfold kidB; simp [g0])
      go_enter Try.func35, Try.ntmps35
      go_wp2
      go_ret
      exact ⟨ret_bool HE.out.symm, Below.refl _ _⟩
  · have HE := Lib.hid (show kidB 9 l = false by unfold kidB; simp [← hn, h1])
    have q1 : ((n : Int) == 1) = false := by simp; omega
    clear hI hn
    go_enter Try.func35, Try.ntmps35
    go_wp2
    go_ret
    exact ⟨ret_bool HE.out.symm, Below.refl _ _⟩
set_option maxRecDepth 100000 in
set_option maxHeartbeats 1500000 in
theorem kid_10 (K : Option Addr) (n c : Nat) (l : List Int) (w : World) (hI : Ints w K l) (hn : n = l.length) (hl : n ≤ 4000) : Calls Try.prog 35 #[.int .i64 10, .slice K n c] w (BPost (kidB 10 l) w) := by
  by_cases h1 : n = 2
  · subst h1
    obtain ⟨x, y, rfl⟩ : ∃ x y, l = [x, y] := by
      exact len2 hn
    obtain ⟨bK, oK, rfl, hbK, hcK⟩ := hI (by show 0 < 2; omega)
    have c0 := hcK 0 (by show 0 < 2; omega)
    have c1 := hcK 1 (by show 1 < 2; omega)
    simp only [List.getElem_cons_zero, List.getElem_cons_succ, Nat.add_zero] at c0 c1
    clear hcK hn
    by_cases g0 : x = 18
    · subst g0
      cases he1 : expB y with
      | true =>
        have HC1 := Lib.hid (fun w' => expression_any y w')
        rw [he1] at HC1
        go_enter Try.func35, Try.ntmps35
        go_wp2_with (go_at_call 54; refine (HC1.out _).mono ?_)
        rintro e w1 ⟨rfl, hb1⟩
        have HE := Lib.hid (show kidB 10 [18, y] = true by unfold kidB; simp [he1])
        clear he1
        go_wp2
        go_ret
        exact ⟨ret_bool HE.out.symm, hb1⟩
      | false =>
        have HC1 := Lib.hid (fun w' => expression_any y w')
        rw [he1] at HC1
        go_enter Try.func35, Try.ntmps35
        go_wp2_with (go_at_call 54; refine (HC1.out _).mono ?_)
        rintro e w1 ⟨rfl, hb1⟩
        have HE := Lib.hid (show kidB 10 [18, y] = false by unfold kidB; simp [he1])
        clear he1
        go_wp2
        go_ret
        exact ⟨ret_bool HE.out.symm, hb1⟩
    · have q0 : (x == 18) = false := by simpa using g0
      have HE := Lib.hid (show kidB 10 [x, y] = false by unfold kidB; simp [g0])
      go_enter Try.func35, Try.ntmps35
      go_wp2
      go_ret
      exact ⟨ret_bool HE.out.symm, Below.refl _ _⟩
  · have HE := Lib.hid (show kidB 10 l = false by unfold kidB; simp [← hn, h1])
    have q1 : ((n : Int) == 2) = false := by simp; omega
    clear hI hn
    go_enter Try.func35, Try.ntmps35
    go_wp2
    go_ret
    exact ⟨ret_bool HE.out.symm, Below.refl _ _⟩
set_option maxRecDepth 100000 in
set_option maxHeartbeats 1500000 in
theorem kid_11 (K : Option Addr) (n c : Nat) (l : List Int) (w : World) (hI : Ints w K l) (hn : n = l.length) (hl : n ≤ 4000) : Calls Try.prog 35 #[.int .i64 11, .slice K n c] w (BPost (kidB 11 l) w) := by
  by_cases h1 : n = 3
  · subst h1
    obtain ⟨x, y, z, rfl⟩ : ∃ x y z, l = [x, y, z] := by
      exact len3 hn
    obtain ⟨bK, oK, rfl, hbK, hcK⟩ := hI (by show 0 < 3; omega)
    have c0 := hcK 0 (by show 0 < 3; omega)
    have c1 := hcK 1 (by show 1 < 3; omega)
    have c2 := hcK 2 (by show 2 < 3; omega)
    simp only [List.getElem_cons_zero, List.getElem_cons_succ, Nat.add_zero] at c0 c1 c2
    clear hcK hn
    cases he0 : expB x with
    | true =>
      have HC0 := Lib.hid (fun w' => expression_any x w')
      rw [he0] at HC0
      go_enter Try.func35, Try.ntmps35
      go_wp2_with (go_at_call 54; refine (HC0.out _).mono ?_)
      rintro e w1 ⟨rfl, hb1⟩
      have c1 := (hb1.cell (p := ⟨bK, oK + 1, none⟩) (by first | exact hbK | (have := hb1.size; omega))).trans c1
      have c2 := (hb1.cell (p := ⟨bK, oK + 2, none⟩) (by first | exact hbK | (have := hb1.size; omega))).trans c2
      by_cases g1 : y = 6
      · subst g1
        by_cases g2 : z = 6
        · subst g2
          have HE := Lib.hid (show kidB 11 [x, 6, 6] = true by unfold kidB; simp [he0])
          clear he0
          go_wp2
          go_ret
          exact ⟨ret_bool HE.out.symm, hb1⟩
        · have q2 : (z == 6) = false := by simpa using g2
          have HE := Lib.hid (show kidB 11 [x, 6, z] = false by unfold kidB; simp [he0, g2])
          clear he0
          go_wp2
          go_ret
          exact ⟨ret_bool HE.out.symm, hb1⟩
      · have q1 : (y == 6) = false := by simpa using g1
        have HE := Lib.hid (show kidB 11 [x, y, z] = false by unfold kidB; simp [he0, g1])
        clear he0
        go_wp2
        go_ret
        exact ⟨ret_bool HE.out.symm, hb1⟩
    | false =>
      have HC0 := Lib.hid (fun w' => expression_any x w')
      rw [he0] at HC0
      go_enter Try.func35, Try.ntmps35
      go_wp2_with (go_at_call 54; refine (HC0.out _).mono ?_)
      rintro e w1 ⟨rfl, hb1⟩
      have c1 := (hb1.cell (p := ⟨bK, oK + 1, none⟩) (by first | exact hbK | (have := hb1.size; omega))).trans c1
      have c2 := (hb1.cell (p := ⟨bK, oK + 2, none⟩) (by first | exact hbK | (have := hb1.size; omega))).trans c2
      have HE := Lib.hid (show kidB 11 [x, y, z] = false by unfold kidB; simp [he0])
      clear he0
      go_wp2
      go_ret
      exact ⟨ret_bool HE.out.symm, hb1⟩
  · have HE := Lib.hid (show kidB 11 l = false by unfold kidB; simp [← hn, h1])
    have q1 : ((n : Int) == 3) = false := by simp; omega
    clear hI hn
    go_enter Try.func35, Try.ntmps35
    go_wp2
    go_ret
    exact ⟨ret_bool HE.out.symm, Below.refl _ _⟩
set_option maxRecDepth 100000 in
set_option maxHeartbeats 1500000 in
theorem kid_12 (K : Option Addr) (n c : Nat) (l : List Int) (w : World) (hI : Ints w K l) (hn : n = l.length) (hl : n ≤ 4000) : Calls Try.prog 35 #[.int .i64 12, .slice K n c] w (BPost (kidB 12 l) w) := by
  by_cases h1 : n = 2
  · subst h1
    obtain ⟨x, y, rfl⟩ : ∃ x y, l = [x, y] := by
      exact len2 hn
    obtain ⟨bK, oK, rfl, hbK, hcK⟩ := hI (by show 0 < 2; omega)
    have c0 := hcK 0 (by show 0 < 2; omega)
    have c1 := hcK 1 (by show 1 < 2; omega)
    simp only [List.getElem_cons_zero, List.getElem_cons_succ, Nat.add_zero] at c0 c1
    clear hcK hn
    cases he0 : expB x with
    | true =>
      have HC0 := Lib.hid (fun w' => expression_any x w')
      rw [he0] at HC0
      go_enter Try.func35, Try.ntmps35
      go_wp2_with (go_at_call 54; refine (HC0.out _).mono ?_)
      rintro e w1 ⟨rfl, hb1⟩
      have c1 := (hb1.cell (p := ⟨bK, oK + 1, none⟩) (by first | exact hbK | (have := hb1.size; omega))).trans c1
      by_cases g1 : y = 6
      · subst g1
        have HE := Lib.hid (show kidB 12 [x, 6] = true by unfold kidB; simp [he0])
        clear he0
        go_wp2
        go_ret
        exact ⟨ret_bool HE.out.symm, hb1⟩
      · have q1 : (y == 6) = false := by simpa using g1
        have HE := Lib.hid (show kidB 12 [x, y] = false by unfold kidB; simp [he0, g1])
        clear he0
        go_wp2
        go_ret
        exact ⟨ret_bool HE.out.symm, hb1⟩
    | false =>
      have HC0 := Lib.hid (fun w' => expression_any x w')
      rw [he0] at HC0
      go_enter Try.func35, Try.ntmps35
      go_wp2_with (go_at_call 54; refine (HC0.out _).mono ?_)
      rintro e w1 ⟨rfl, hb1⟩
      have c1 := (hb1.cell (p := ⟨bK, oK + 1, none⟩) (by first | exact hbK | (have := hb1.size; omega))).trans c1
      have HE := Lib.hid (show kidB 12 [x, y] = false by unfold kidB; simp [he0])
      clear he0
      go_wp2
      go_ret
      exact ⟨ret_bool HE.out.symm, hb1⟩
  · have HE := Lib.hid (show kidB 12 l = false by unfold kidB; simp [← hn, h1])
    have q1 : ((n : Int) == 2) = false := by simp; omega
    clear hI hn
    go_enter Try.func35, Try.ntmps35
    go_wp2
    go_ret
    exact ⟨ret_bool HE.out.symm, Below.refl _ _⟩
set_option maxRecDepth 100000 in
set_option maxHeartbeats 1500000 in
theorem kid_16 (K : Option Addr) (n c : Nat) (l : List Int) (w : World) (hI : Ints w K l) (hn : n = l.length) (hl : n ≤ 4000) : Calls Try.prog 35 #[.int .i64 16, .slice K n c] w (BPost (kidB 16 l) w) := by
  by_cases h1 : n = 2
  · subst h1
    obtain ⟨x, y, rfl⟩ : ∃ x y, l = [x, y] := by
      exact len2 hn
    obtain ⟨bK, oK, rfl, hbK, hcK⟩ := hI (by show 0 < 2; omega)
    have c0 := hcK 0 (by show 0 < 2; omega)
    have c1 := hcK 1 (by show 1 < 2; omega)
    simp only [List.getElem_cons_zero, List.getElem_cons_succ, Nat.add_zero] at c0 c1
    clear hcK hn
    by_cases g0 : x = 6
    · subst g0
      by_cases g1 : y = 6
      · subst g1
        have HE := Lib.hid (show kidB 16 [6, 6] = true by unfold kidB; simp)
        go_enter Try.func35, Try.ntmps35
        go_wp2
        go_ret
        exact ⟨ret_bool HE.out.symm, Below.refl _ _⟩
      · have q1 : (y == 6) = false := by simpa using g1
        have HE := Lib.hid (show kidB 16 [6, y] = false by unfold kidB; simp [g1])
        go_enter Try.func35, Try.ntmps35
        go_wp2
        go_ret
        exact ⟨ret_bool HE.out.symm, Below.refl _ _⟩
    · have q0 : (x == 6) = false := by simpa using g0
      have HE := Lib.hid (show kidB 16 [x, y] = false by unfold kidB; simp [g0])
      go_enter Try.func35, Try.ntmps35
      go_wp2
      go_ret
      exact ⟨ret_bool HE.out.symm, Below.refl _ _⟩
  · have HE := Lib.hid (show kidB 16 l = false by unfold kidB; simp [← hn, h1])
    have q1 : ((n : Int) == 2) = false := by simp; omega
    clear hI hn
    go_enter Try.func35, Try.ntmps35
    go_wp2
    go_ret
    exact ⟨ret_bool HE.out.symm, Below.refl _ _⟩
end Go.Proofs.Ytcnmkmdedeiffaa
