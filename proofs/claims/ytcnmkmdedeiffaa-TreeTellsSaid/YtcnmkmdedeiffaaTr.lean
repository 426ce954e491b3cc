/- PROVED here: the contracts of the program's plain tests of kinds and of texts. No condition but those in each theorem's own head. -/
import Derived.Test.YtcnmkmdedeiffaaTq
namespace Go.Proofs.Ytcnmkmdedeiffaa
open Go Go.RowKit

set_option maxRecDepth 100000 in
set_option maxHeartbeats 1500000 in
theorem isStatement_any (k : Int) (w : World) : Calls Try.prog 44 #[.int .i64 k] w (BPost (stmB k) w) := by
  by_cases h1 : 7 ≤ k
  · by_cases h2 : k ≤ 17
    · have HE := Lib.hid (show stmB k = true by unfold stmB; simp [h1, h2])
      have q1 : decide (7 ≤ k) = true := decide_eq_true h1
      have q2 : decide (k ≤ 17) = true := decide_eq_true h2
      go_enter Try.func44, Try.ntmps44
      go_wp2
      go_ret
      exact ⟨ret_bool HE.out.symm, Below.refl _ _⟩
    · have HE := Lib.hid (show stmB k = false by unfold stmB; simp [h1, h2])
      have q1 : decide (7 ≤ k) = true := decide_eq_true h1
      have q2 : decide (k ≤ 17) = false := decide_eq_false h2
      go_enter Try.func44, Try.ntmps44
      go_wp2
      go_ret
      exact ⟨ret_bool HE.out.symm, Below.refl _ _⟩
  · have HE := Lib.hid (show stmB k = false by unfold stmB; simp [h1])
    have q1 : decide (7 ≤ k) = false := decide_eq_false h1
    go_enter Try.func44, Try.ntmps44
    go_wp2
    go_ret
    exact ⟨ret_bool HE.out.symm, Below.refl _ _⟩
set_option maxRecDepth 100000 in
set_option maxHeartbeats 1500000 in
theorem isExpression_any (k : Int) (w : World) : Calls Try.prog 38 #[.int .i64 k] w (BPost (expB k) w) := by
  by_cases h1 : 20 ≤ k
  · by_cases h2 : k ≤ 27
    · have HE := Lib.hid (show expB k = true by unfold expB; simp [h1, h2])
      have q1 : decide (20 ≤ k) = true := decide_eq_true h1
      have q2 : decide (k ≤ 27) = true := decide_eq_true h2
      go_enter Try.func38, Try.ntmps38
      go_wp2
      go_ret
      exact ⟨ret_bool HE.out.symm, Below.refl _ _⟩
    · have HE := Lib.hid (show expB k = false by unfold expB; simp [h1, h2])
      have q1 : decide (20 ≤ k) = true := decide_eq_true h1
      have q2 : decide (k ≤ 27) = false := decide_eq_false h2
      go_enter Try.func38, Try.ntmps38
      go_wp2
      go_ret
      exact ⟨ret_bool HE.out.symm, Below.refl _ _⟩
  · have HE := Lib.hid (show expB k = false by unfold expB; simp [h1])
    have q1 : decide (20 ≤ k) = false := decide_eq_false h1
    go_enter Try.func38, Try.ntmps38
    go_wp2
    go_ret
    exact ⟨ret_bool HE.out.symm, Below.refl _ _⟩
set_option maxRecDepth 100000 in
set_option maxHeartbeats 1500000 in
theorem isEmpty_any (s : ByteArray) (w : World) : Calls Try.prog 40 #[.string s] w (BPost (s.data.toList == []) w) := by
  by_cases g : s.data.toList = []
  · have qg : (s.toList == []) = true := by rw [ByteArray.toList_eq]; exact beq_iff_eq.2 g
    have HE := Lib.hid (show (s.data.toList == []) = true from beq_iff_eq.2 g)
    clear g
    go_enter Try.func40, Try.ntmps40
    go_wp2
    go_ret
    exact ⟨ret_bool HE.out.symm, Below.refl _ _⟩
  · have qg : (s.toList == []) = false := by rw [ByteArray.toList_eq]; exact beq_eq_false_iff_ne.2 g
    have HE := Lib.hid (show (s.data.toList == []) = false from beq_eq_false_iff_ne.2 g)
    clear g
    go_enter Try.func40, Try.ntmps40
    go_wp2
    go_ret
    exact ⟨ret_bool HE.out.symm, Below.refl _ _⟩
set_option maxRecDepth 100000 in
set_option maxHeartbeats 1500000 in
theorem isUnary_any (s : ByteArray) (w : World) : Calls Try.prog 47 #[.string s] w (BPost (s.data.toList == [45] || s.data.toList == [33]) w) := by
  by_cases g : s.data.toList = [45]
  · have qg : (s.toList == [45]) = true := by rw [ByteArray.toList_eq]; exact beq_iff_eq.2 g
    have HE := Lib.hid (show (s.data.toList == [45] || s.data.toList == [33]) = true by rw [beq_iff_eq.2 g]; rfl)
    clear g
    go_enter Try.func47, Try.ntmps47
    go_wp2
    go_ret
    exact ⟨ret_bool HE.out.symm, Below.refl _ _⟩
  · have qg : (s.toList == [45]) = false := by rw [ByteArray.toList_eq]; exact beq_eq_false_iff_ne.2 g
    by_cases g2 : s.data.toList = [33]
    · have qg2 : (s.toList == [33]) = true := by rw [ByteArray.toList_eq]; exact beq_iff_eq.2 g2
      have HE := Lib.hid (show (s.data.toList == [45] || s.data.toList == [33]) = true by rw [beq_iff_eq.2 g2]; simp)
      clear g g2
      go_enter Try.func47, Try.ntmps47
      go_wp2
      go_ret
      exact ⟨ret_bool HE.out.symm, Below.refl _ _⟩
    · have qg2 : (s.toList == [33]) = false := by rw [ByteArray.toList_eq]; exact beq_eq_false_iff_ne.2 g2
      have HE := Lib.hid (show (s.data.toList == [45] || s.data.toList == [33]) = false by rw [beq_eq_false_iff_ne.2 g, beq_eq_false_iff_ne.2 g2]; rfl)
      clear g g2
      go_enter Try.func47, Try.ntmps47
      go_wp2
      go_ret
      exact ⟨ret_bool HE.out.symm, Below.refl _ _⟩
set_option maxRecDepth 100000 in
set_option maxHeartbeats 1500000 in
theorem isNameOrEmpty_any (s : ByteArray) (w : World) (hmax : s.size ≤ 281474976710656) : Calls Try.prog 45 #[.string s] w (BPost (idB s.data.toList || s.data.toList == []) w) := by
  by_cases g : s.data.toList = []
  · have qg : (s.toList == []) = true := by rw [ByteArray.toList_eq]; exact beq_iff_eq.2 g
    have HE := Lib.hid (show (idB s.data.toList || s.data.toList == []) = true by rw [beq_iff_eq.2 g]; simp)
    clear g
    go_enter Try.func45, Try.ntmps45
    go_wp2
    go_ret
    exact ⟨ret_bool HE.out.symm, Below.refl _ _⟩
  · have qg : (s.toList == []) = false := by rw [ByteArray.toList_eq]; exact beq_eq_false_iff_ne.2 g
    have HC := Lib.hid (ident_any s w hmax)
    have HE := Lib.hid (show (idB s.data.toList || s.data.toList == []) = idB s.data.toList by rw [beq_eq_false_iff_ne.2 g]; simp)
    clear g
    generalize idB s.data.toList = v at *
    go_enter Try.func45, Try.ntmps45
    go_wp2_with (go_at_call 43; refine HC.out.mono ?_; rintro e w1 ⟨rfl, rfl⟩)
    go_ret
    exact ⟨ret_bool HE.out.symm, Below.refl _ _⟩
set_option maxHeartbeats 2000000 in
theorem isBinary_s (s : ByteArray) (w : World) : Calls Try.prog 48 #[.string s] w fun e w' => e = .returned (.bool (sgB s.toList)) ∧ w = w' := by
  go_enter Try.func48, Try.ntmps48
  go_wp2
  all_goals
    first
    | (exfalso; simp_all only [Bool.false_eq_true]; done)
    | (go_ret; exact ⟨ret_bool (by simp only [sgB, *, Bool.true_or, Bool.or_true, Bool.or_self]), rfl⟩)
theorem isBinary_any (s : ByteArray) (w : World) : Calls Try.prog 48 #[.string s] w (BPost (sgB s.data.toList) w) := by
  rw [← ByteArray.toList_eq]
  exact (isBinary_s s w).mono fun e w' ⟨h1, h2⟩ => ⟨h1, by subst h2; exact Below.refl _ _⟩
end Go.Proofs.Ytcnmkmdedeiffaa
