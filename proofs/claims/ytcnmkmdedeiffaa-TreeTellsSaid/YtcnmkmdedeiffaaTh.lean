/- PROVED here: the contracts of the document's statement, expression, all and numbers. No condition but those in each theorem's own head. -/
import Derived.Test.YtcnmkmdedeiffaaTe
namespace Go.Proofs.Ytcnmkmdedeiffaa
open Go Go.RowKit

def stmB (k : Int) : Bool := decide (7 ≤ k) && decide (k ≤ 17)
def expB (k : Int) : Bool := decide (20 ≤ k) && decide (k ≤ 27)
def allB (l : List Int) : Bool := l.all expB
def numB (kd n : Int) : Bool := if kd = 2 ∨ kd = 4 ∨ kd = 5 then decide (1 ≤ n) && decide (n ≤ 4) else if kd = 3 then decide (0 ≤ n) && decide (n ≤ 4) else if kd = 20 then decide (0 ≤ n) else if kd = 21 then decide (n = 0) || decide (n = 1) else decide (n = 0)
set_option maxRecDepth 100000 in
set_option maxHeartbeats 1500000 in
theorem statement_any (k : Int) (w : World) : Calls Try.prog 52 #[.int .i64 k] w (BPost (stmB k) w) := by
  by_cases h1 : 7 ≤ k
  · by_cases h2 : k ≤ 17
    · have HE := Lib.hid (show stmB k = true by unfold stmB; simp [h1, h2])
      have q1 : decide (7 ≤ k) = true := decide_eq_true h1
      have q2 : decide (k ≤ 17) = true := decide_eq_true h2
      go_enter Try.func52, Try.ntmps52
      go_wp2
      go_ret
      exact ⟨ret_bool HE.out.symm, Below.refl _ _⟩
    · have HE := Lib.hid (show stmB k = false by unfold stmB; simp [h1, h2])
      have q1 : decide (7 ≤ k) = true := decide_eq_true h1
      have q2 : decide (k ≤ 17) = false := decide_eq_false h2
      go_enter Try.func52, Try.ntmps52
      go_wp2
      go_ret
      exact ⟨ret_bool HE.out.symm, Below.refl _ _⟩
  · have HE := Lib.hid (show stmB k = false by unfold stmB; simp [h1])
    have q1 : decide (7 ≤ k) = false := decide_eq_false h1
    go_enter Try.func52, Try.ntmps52
    go_wp2
    go_ret
    exact ⟨ret_bool HE.out.symm, Below.refl _ _⟩
set_option maxRecDepth 100000 in
set_option maxHeartbeats 1500000 in
theorem expression_any (k : Int) (w : World) : Calls Try.prog 54 #[.int .i64 k] w (BPost (expB k) w) := by
  by_cases h1 : 20 ≤ k
  · by_cases h2 : k ≤ 27
    · have HE := Lib.hid (show expB k = true by unfold expB; simp [h1, h2])
      have q1 : decide (20 ≤ k) = true := decide_eq_true h1
      have q2 : decide (k ≤ 27) = true := decide_eq_true h2
      go_enter Try.func54, Try.ntmps54
      go_wp2
      go_ret
      exact ⟨ret_bool HE.out.symm, Below.refl _ _⟩
    · have HE := Lib.hid (show expB k = false by unfold expB; simp [h1, h2])
      have q1 : decide (20 ≤ k) = true := decide_eq_true h1
      have q2 : decide (k ≤ 27) = false := decide_eq_false h2
      go_enter Try.func54, Try.ntmps54
      go_wp2
      go_ret
      exact ⟨ret_bool HE.out.symm, Below.refl _ _⟩
  · have HE := Lib.hid (show expB k = false by unfold expB; simp [h1])
    have q1 : decide (20 ≤ k) = false := decide_eq_false h1
    go_enter Try.func54, Try.ntmps54
    go_wp2
    go_ret
    exact ⟨ret_bool HE.out.symm, Below.refl _ _⟩
set_option maxRecDepth 100000 in
set_option maxHeartbeats 1500000 in
theorem all_any (K : Option Addr) (n c : Nat) (l : List Int) (w : World) (hI : Ints w K l) (hn : n = l.length) (hl : n ≤ 4000) : Calls Try.prog 53 #[.slice K n c] w (BPost (allB l) w) := by
  have HI := Lib.hid hI
  have HL := Lib.hid hn
  clear hI hn
  go_enter Try.func53, Try.ntmps53
  go_wp2
  go_loopw [3] (fun i wr => ∃ j : Nat, j ≤ n ∧ i = .int .i64 (j : Int) ∧ allB (l.take j) = true ∧ Below w.heap.size w wr) (fun i _ => n - (intOf i).toNat)
  case atStart => exact ⟨0, Nat.zero_le _, rfl, rfl, Below.refl _ _⟩
  case round =>
    obtain ⟨j, hj, rfl, hall, hbw⟩ := hrel
    have HA := Lib.hid hall
    clear hall
    by_cases hjl : j < n
    · have hjz : (j : Int) < (n : Int) := by omega
      have hjl2 : j < l.length := by rw [← HL.out]; exact hjl
      obtain ⟨bK, oK, rfl, hbK, hcK⟩ := HI.out (by omega)
      have hck := (hbw.cell (p := ⟨bK, oK + j, none⟩) hbK).trans (hcK j hjl2)
      have HTJ := Lib.hid (show l.take (j + 1) = l.take j ++ [l[j]] from List.take_succ_eq_append_getElem hjl2)
      have HMM := Lib.hid (List.getElem_mem hjl2)
      clear hcK
      generalize l[j] = kk at *
      cases he : expB kk with
      | true =>
        have HC := Lib.hid (expression_any kk wr)
        rw [he] at HC
        have HE := Lib.hid he
        clear he
        go_wp2_with (go_at_call 54; refine HC.out.mono ?_; rintro e w1 ⟨rfl, hb1⟩)
        go_roundw
        case rel =>
          refine ⟨j + 1, by omega, by go_num, ?_, bt hbw hb1⟩
          rw [HTJ.out]; unfold allB; rw [List.all_append]
          have := HA.out
          unfold allB at this
          rw [this]; simp [HE.out]
        case measure => simp [intOf]; omega
      | false =>
        have HC := Lib.hid (expression_any kk wr)
        rw [he] at HC
        have HE := Lib.hid (show allB l = false by
          unfold allB
          rw [List.all_eq_false]
          exact ⟨kk, HMM.out, by simp [he]⟩)
        clear he
        go_wp2_with (go_at_call 54; refine HC.out.mono ?_; rintro e w1 ⟨rfl, hb1⟩)
        go_ret
        exact ⟨ret_bool HE.out.symm, bt hbw hb1⟩
    · obtain rfl : j = n := by omega
      have hjz : ¬ (j : Int) < (j : Int) := by omega
      have HE := Lib.hid (show allB l = true by have := HA.out; rw [HL.out, List.take_length] at this; exact this)
      go_wp2
      go_ret
      exact ⟨ret_bool HE.out.symm, hbw⟩
end Go.Proofs.Ytcnmkmdedeiffaa
