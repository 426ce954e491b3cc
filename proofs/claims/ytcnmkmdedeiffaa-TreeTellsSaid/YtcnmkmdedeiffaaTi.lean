/- PROVED here: the contract of the document's numbers. No condition but those in each theorem's own head. -/
import Derived.Test.YtcnmkmdedeiffaaTh
namespace Go.Proofs.Ytcnmkmdedeiffaa
open Go Go.RowKit

set_option maxRecDepth 100000 in
set_option maxHeartbeats 1500000 in
theorem num_2 (kd n pl : Int) (tx : ByteArray) (K : Option Addr) (m c : Nat) (w : World) (hk : kd = 2) : Calls Try.prog 34 #[.agg #[.int .i64 kd, .int .i64 n, .int .i64 pl, .string tx, .slice K m c]] w (BPost (numB kd n) w) := by
  have hb : Below w.heap.size w (w.alloc (.cells #[.int .i64 kd, .int .i64 n, .int .i64 pl, .string tx, .slice K m c] 24)) := heap1 _ _
  obtain ⟨W, hW⟩ : ∃ W, w.alloc (.cells #[.int .i64 kd, .int .i64 n, .int .i64 pl, .string tx, .slice K m c] 24) = W := ⟨_, rfl⟩
  have hB : Bx W w.heap.size 24 [.int .i64 kd, .int .i64 n, .int .i64 pl, .string tx, .slice K m c] := by rw [← hW]; exact Bx.new w 24 _
  rw [hW] at hb
  have d0 := hB.cell 0
  have d1 := hB.cell 1
  simp only [List.getElem?_cons_zero, List.getElem?_cons_succ] at d0 d1
  clear hB
  subst hk
  by_cases h1 : 1 ≤ n
  · have q1 : decide (1 ≤ n) = true := decide_eq_true h1
    by_cases h2 : n ≤ 4
    · have q2 : decide (n ≤ 4) = true := decide_eq_true h2
      have HE := Lib.hid (show numB 2 n = true by unfold numB; simp [h1, h2])
      go_enter Try.func34, Try.ntmps34
      go_wp2
      go_ret
      exact ⟨ret_bool HE.out.symm, hb⟩
    · have q2 : decide (n ≤ 4) = false := decide_eq_false h2
      have HE := Lib.hid (show numB 2 n = false by unfold numB; simp [h2])
      go_enter Try.func34, Try.ntmps34
      go_wp2
      go_ret
      exact ⟨ret_bool HE.out.symm, hb⟩
  · have q1 : decide (1 ≤ n) = false := decide_eq_false h1
    have HE := Lib.hid (show numB 2 n = false by unfold numB; simp [h1])
    go_enter Try.func34, Try.ntmps34
    go_wp2
    go_ret
    exact ⟨ret_bool HE.out.symm, hb⟩
set_option maxRecDepth 100000 in
set_option maxHeartbeats 1500000 in
theorem num_4 (kd n pl : Int) (tx : ByteArray) (K : Option Addr) (m c : Nat) (w : World) (hk : kd = 4) : Calls Try.prog 34 #[.agg #[.int .i64 kd, .int .i64 n, .int .i64 pl, .string tx, .slice K m c]] w (BPost (numB kd n) w) := by
  have hb : Below w.heap.size w (w.alloc (.cells #[.int .i64 kd, .int .i64 n, .int .i64 pl, .string tx, .slice K m c] 24)) := heap1 _ _
  obtain ⟨W, hW⟩ : ∃ W, w.alloc (.cells #[.int .i64 kd, .int .i64 n, .int .i64 pl, .string tx, .slice K m c] 24) = W := ⟨_, rfl⟩
  have hB : Bx W w.heap.size 24 [.int .i64 kd, .int .i64 n, .int .i64 pl, .string tx, .slice K m c] := by rw [← hW]; exact Bx.new w 24 _
  rw [hW] at hb
  have d0 := hB.cell 0
  have d1 := hB.cell 1
  simp only [List.getElem?_cons_zero, List.getElem?_cons_succ] at d0 d1
  clear hB
  subst hk
  by_cases h1 : 1 ≤ n
  · have q1 : decide (1 ≤ n) = true := decide_eq_true h1
    by_cases h2 : n ≤ 4
    · have q2 : decide (n ≤ 4) = true := decide_eq_true h2
      have HE := Lib.hid (show numB 4 n = true by unfold numB; simp [h1, h2])
      go_enter Try.func34, Try.ntmps34
      go_wp2
      go_ret
      exact ⟨ret_bool HE.out.symm, hb⟩
    · have q2 : decide (n ≤ 4) = false := decide_eq_false h2
      have HE := Lib.hid (show numB 4 n = false by unfold numB; simp [h2])
      go_enter Try.func34, Try.ntmps34
      go_wp2
      go_ret
      exact ⟨ret_bool HE.out.symm, hb⟩
  · have q1 : decide (1 ≤ n) = false := decide_eq_false h1
    have HE := Lib.hid (show numB 4 n = false by unfold numB; simp [h1])
    go_enter Try.func34, Try.ntmps34
    go_wp2
    go_ret
    exact ⟨ret_bool HE.out.symm, hb⟩
set_option maxRecDepth 100000 in
set_option maxHeartbeats 1500000 in
theorem num_5 (kd n pl : Int) (tx : ByteArray) (K : Option Addr) (m c : Nat) (w : World) (hk : kd = 5) : Calls Try.prog 34 #[.agg #[.int .i64 kd, .int .i64 n, .int .i64 pl, .string tx, .slice K m c]] w (BPost (numB kd n) w) := by
  have hb : Below w.heap.size w (w.alloc (.cells #[.int .i64 kd, .int .i64 n, .int .i64 pl, .string tx, .slice K m c] 24)) := heap1 _ _
  obtain ⟨W, hW⟩ : ∃ W, w.alloc (.cells #[.int .i64 kd, .int .i64 n, .int .i64 pl, .string tx, .slice K m c] 24) = W := ⟨_, rfl⟩
  have hB : Bx W w.heap.size 24 [.int .i64 kd, .int .i64 n, .int .i64 pl, .string tx, .slice K m c] := by rw [← hW]; exact Bx.new w 24 _
  rw [hW] at hb
  have d0 := hB.cell 0
  have d1 := hB.cell 1
  simp only [List.getElem?_cons_zero, List.getElem?_cons_succ] at d0 d1
  clear hB
  subst hk
  by_cases h1 : 1 ≤ n
  · have q1 : decide (1 ≤ n) = true := decide_eq_true h1
    by_cases h2 : n ≤ 4
    · have q2 : decide (n ≤ 4) = true := decide_eq_true h2
      have HE := Lib.hid (show numB 5 n = true by unfold numB; simp [h1, h2])
      go_enter Try.func34, Try.ntmps34
      go_wp2
      go_ret
      exact ⟨ret_bool HE.out.symm, hb⟩
    · have q2 : decide (n ≤ 4) = false := decide_eq_false h2
      have HE := Lib.hid (show numB 5 n = false by unfold numB; simp [h2])
      go_enter Try.func34, Try.ntmps34
      go_wp2
      go_ret
      exact ⟨ret_bool HE.out.symm, hb⟩
  · have q1 : decide (1 ≤ n) = false := decide_eq_false h1
    have HE := Lib.hid (show numB 5 n = false by unfold numB; simp [h1])
    go_enter Try.func34, Try.ntmps34
    go_wp2
    go_ret
    exact ⟨ret_bool HE.out.symm, hb⟩
set_option maxRecDepth 100000 in
set_option maxHeartbeats 1500000 in
theorem num_3 (kd n pl : Int) (tx : ByteArray) (K : Option Addr) (m c : Nat) (w : World) (hk : kd = 3) : Calls Try.prog 34 #[.agg #[.int .i64 kd, .int .i64 n, .int .i64 pl, .string tx, .slice K m c]] w (BPost (numB kd n) w) := by
  have hb : Below w.heap.size w (w.alloc (.cells #[.int .i64 kd, .int .i64 n, .int .i64 pl, .string tx, .slice K m c] 24)) := heap1 _ _
  obtain ⟨W, hW⟩ : ∃ W, w.alloc (.cells #[.int .i64 kd, .int .i64 n, .int .i64 pl, .string tx, .slice K m c] 24) = W := ⟨_, rfl⟩
  have hB : Bx W w.heap.size 24 [.int .i64 kd, .int .i64 n, .int .i64 pl, .string tx, .slice K m c] := by rw [← hW]; exact Bx.new w 24 _
  rw [hW] at hb
  have d0 := hB.cell 0
  have d1 := hB.cell 1
  simp only [List.getElem?_cons_zero, List.getElem?_cons_succ] at d0 d1
  clear hB
  subst hk
  by_cases h1 : 0 ≤ n
  · have q1 : decide (0 ≤ n) = true := decide_eq_true h1
    by_cases h2 : n ≤ 4
    · have q2 : decide (n ≤ 4) = true := decide_eq_true h2
      have HE := Lib.hid (show numB 3 n = true by unfold numB; simp [h1, h2])
      go_enter Try.func34, Try.ntmps34
      go_wp2
      go_ret
      exact ⟨ret_bool HE.out.symm, hb⟩
    · have q2 : decide (n ≤ 4) = false := decide_eq_false h2
      have HE := Lib.hid (show numB 3 n = false by unfold numB; simp [h2])
      go_enter Try.func34, Try.ntmps34
      go_wp2
      go_ret
      exact ⟨ret_bool HE.out.symm, hb⟩
  · have q1 : decide (0 ≤ n) = false := decide_eq_false h1
    have HE := Lib.hid (show numB 3 n = false by unfold numB; simp [h1])
    go_enter Try.func34, Try.ntmps34
    go_wp2
    go_ret
    exact ⟨ret_bool HE.out.symm, hb⟩
set_option maxRecDepth 100000 in
set_option maxHeartbeats 1500000 in
theorem num_20 (kd n pl : Int) (tx : ByteArray) (K : Option Addr) (m c : Nat) (w : World) (hk : kd = 20) : Calls Try.prog 34 #[.agg #[.int .i64 kd, .int .i64 n, .int .i64 pl, .string tx, .slice K m c]] w (BPost (numB kd n) w) := by
  have hb : Below w.heap.size w (w.alloc (.cells #[.int .i64 kd, .int .i64 n, .int .i64 pl, .string tx, .slice K m c] 24)) := heap1 _ _
  obtain ⟨W, hW⟩ : ∃ W, w.alloc (.cells #[.int .i64 kd, .int .i64 n, .int .i64 pl, .string tx, .slice K m c] 24) = W := ⟨_, rfl⟩
  have hB : Bx W w.heap.size 24 [.int .i64 kd, .int .i64 n, .int .i64 pl, .string tx, .slice K m c] := by rw [← hW]; exact Bx.new w 24 _
  rw [hW] at hb
  have d0 := hB.cell 0
  have d1 := hB.cell 1
  simp only [List.getElem?_cons_zero, List.getElem?_cons_succ] at d0 d1
  clear hB
  subst hk
  by_cases h1 : 0 ≤ n
  · have q1 : decide (0 ≤ n) = true := decide_eq_true h1
    have HE := Lib.hid (show numB 20 n = true by unfold numB; simp [h1])
    go_enter Try.func34, Try.ntmps34
    go_wp2
    go_ret
    exact ⟨ret_bool HE.out.symm, hb⟩
  · have q1 : decide (0 ≤ n) = false := decide_eq_false h1
    have HE := Lib.hid (show numB 20 n = false by unfold numB; simp [h1])
    go_enter Try.func34, Try.ntmps34
    go_wp2
    go_ret
    exact ⟨ret_bool HE.out.symm, hb⟩
set_option maxRecDepth 100000 in
set_option maxHeartbeats 1500000 in
theorem num_21 (kd n pl : Int) (tx : ByteArray) (K : Option Addr) (m c : Nat) (w : World) (hk : kd = 21) : Calls Try.prog 34 #[.agg #[.int .i64 kd, .int .i64 n, .int .i64 pl, .string tx, .slice K m c]] w (BPost (numB kd n) w) := by
  have hb : Below w.heap.size w (w.alloc (.cells #[.int .i64 kd, .int .i64 n, .int .i64 pl, .string tx, .slice K m c] 24)) := heap1 _ _
  obtain ⟨W, hW⟩ : ∃ W, w.alloc (.cells #[.int .i64 kd, .int .i64 n, .int .i64 pl, .string tx, .slice K m c] 24) = W := ⟨_, rfl⟩
  have hB : Bx W w.heap.size 24 [.int .i64 kd, .int .i64 n, .int .i64 pl, .string tx, .slice K m c] := by rw [← hW]; exact Bx.new w 24 _
  rw [hW] at hb
  have d0 := hB.cell 0
  have d1 := hB.cell 1
  simp only [List.getElem?_cons_zero, List.getElem?_cons_succ] at d0 d1
  clear hB
  subst hk
  by_cases h1 : n = 0
  · subst h1
    have HE := Lib.hid (show numB 21 0 = true by unfold numB; simp)
    go_enter Try.func34, Try.ntmps34
    go_wp2
    go_ret
    exact ⟨ret_bool HE.out.symm, hb⟩
  · have q1 : (n == 0) = false := by simp [h1]
    by_cases h2 : n = 1
    · subst h2
      clear q1 h1
      have HE := Lib.hid (show numB 21 1 = true by unfold numB; simp)
      go_enter Try.func34, Try.ntmps34
      go_wp2
      go_ret
      exact ⟨ret_bool HE.out.symm, hb⟩
    · have q2 : (n == 1) = false := by simp [h2]
      have HE := Lib.hid (show numB 21 n = false by unfold numB; simp [h1, h2])
      go_enter Try.func34, Try.ntmps34
      go_wp2
      go_ret
      exact ⟨ret_bool HE.out.symm, hb⟩
set_option maxRecDepth 100000 in
set_option maxHeartbeats 1500000 in
theorem num_no (kd n pl : Int) (tx : ByteArray) (K : Option Addr) (m c : Nat) (w : World) (g2 : ¬ kd = 2) (g4 : ¬ kd = 4) (g5 : ¬ kd = 5) (g3 : ¬ kd = 3) (g20 : ¬ kd = 20) (g21 : ¬ kd = 21) : Calls Try.prog 34 #[.agg #[.int .i64 kd, .int .i64 n, .int .i64 pl, .string tx, .slice K m c]] w (BPost (numB kd n) w) := by
  have hb : Below w.heap.size w (w.alloc (.cells #[.int .i64 kd, .int .i64 n, .int .i64 pl, .string tx, .slice K m c] 24)) := heap1 _ _
  obtain ⟨W, hW⟩ : ∃ W, w.alloc (.cells #[.int .i64 kd, .int .i64 n, .int .i64 pl, .string tx, .slice K m c] 24) = W := ⟨_, rfl⟩
  have hB : Bx W w.heap.size 24 [.int .i64 kd, .int .i64 n, .int .i64 pl, .string tx, .slice K m c] := by rw [← hW]; exact Bx.new w 24 _
  rw [hW] at hb
  have d0 := hB.cell 0
  have d1 := hB.cell 1
  simp only [List.getElem?_cons_zero, List.getElem?_cons_succ] at d0 d1
  clear hB
  have k2 : (kd == 2) = false := by simp [g2]
  have k4 : (kd == 4) = false := by simp [g4]
  have k5 : (kd == 5) = false := by simp [g5]
  have k3 : (kd == 3) = false := by simp [g3]
  have k20 : (kd == 20) = false := by simp [g20]
  have k21 : (kd == 21) = false := by simp [g21]
  by_cases h1 : n = 0
  · subst h1
    have HE := Lib.hid (show numB kd 0 = true by unfold numB; simp [g2, g4, g5, g3, g20, g21])
    go_enter Try.func34, Try.ntmps34
    go_wp2
    go_ret
    exact ⟨ret_bool HE.out.symm, hb⟩
  · have q1 : (n == 0) = false := by simp [h1]
    have HE := Lib.hid (show numB kd n = false by unfold numB; simp [h1, g2, g4, g5, g3, g20, g21])
    go_enter Try.func34, Try.ntmps34
    go_wp2
    go_ret
    exact ⟨ret_bool HE.out.symm, hb⟩
/-- the document's numbers, at any node -/
theorem numbers_any (kd n pl : Int) (tx : ByteArray) (K : Option Addr) (m c : Nat) (w : World) : Calls Try.prog 34 #[.agg #[.int .i64 kd, .int .i64 n, .int .i64 pl, .string tx, .slice K m c]] w (BPost (numB kd n) w) := by
  by_cases g2 : kd = 2
  · exact num_2 kd n pl tx K m c w g2
  by_cases g4 : kd = 4
  · exact num_4 kd n pl tx K m c w g4
  by_cases g5 : kd = 5
  · exact num_5 kd n pl tx K m c w g5
  by_cases g3 : kd = 3
  · exact num_3 kd n pl tx K m c w g3
  by_cases g20 : kd = 20
  · exact num_20 kd n pl tx K m c w g20
  by_cases g21 : kd = 21
  · exact num_21 kd n pl tx K m c w g21
  exact num_no kd n pl tx K m c w g2 g4 g5 g3 g20 g21
end Go.Proofs.Ytcnmkmdedeiffaa
