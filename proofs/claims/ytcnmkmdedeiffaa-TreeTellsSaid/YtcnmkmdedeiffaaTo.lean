/- PROVED here: the contracts of the document's signed and texts. No condition but those in each theorem's own head. -/
import Derived.Test.YtcnmkmdedeiffaaTn
namespace Go.Proofs.Ytcnmkmdedeiffaa
open Go Go.RowKit

def sgB (l : List UInt8) : Bool := l == [43] || l == [45] || l == [42] || l == [47] || l == [37] || l == [61, 61] || l == [33, 61] || l == [60] || l == [60, 61] || l == [62] || l == [62, 61] || l == [38, 38] || l == [124, 124]
def sgL : List (List UInt8) := [[43], [45], [42], [47], [37], [61, 61], [33, 61], [60], [60, 61], [62], [62, 61], [38, 38], [124, 124]]
theorem sg_mem (l : List UInt8) : sgB l = true ↔ l ∈ sgL := by
  simp only [sgB, sgL, Bool.or_eq_true, beq_iff_eq, List.mem_cons, List.not_mem_nil, or_false, or_assoc]
def sgC : Array Value := #[.string ⟨#[43]⟩, .string ⟨#[45]⟩, .string ⟨#[42]⟩, .string ⟨#[47]⟩, .string ⟨#[37]⟩, .string ⟨#[61, 61]⟩, .string ⟨#[33, 61]⟩, .string ⟨#[60]⟩, .string ⟨#[60, 61]⟩, .string ⟨#[62]⟩, .string ⟨#[62, 61]⟩, .string ⟨#[38, 38]⟩, .string ⟨#[124, 124]⟩]
theorem sgC_sv : sgC.toList = sv sgL := by kernel_rfl
set_option maxRecDepth 100000 in
set_option maxHeartbeats 1500000 in
theorem signed_any (s : ByteArray) (w : World) : Calls Try.prog 50 #[.string s] w fun e w' => e = .returned (.bool (sgB s.data.toList)) ∧ Below w.heap.size w w' := by
  go_enter Try.func50, Try.ntmps50
  go_upto_region 2 with (fail)
  refine gen_world (fun w' => SB w' w.heap.size sgL ∧ Below w.heap.size w w') ⟨sb_alloc w sgC sgL sgC_sv, heap1 w _⟩ ?_
  rintro w1 ⟨hS, hb⟩
  have HS := Lib.hid hS
  clear hS
  go_wp2
  go_loop [4] (fun i => ∃ k : Nat, k ≤ 13 ∧ i = .int .i64 (k : Int) ∧ NotTo sgL s.data.toList k) (fun i => 13 - (intOf i).toNat)
  case atStart => exact ⟨0, by omega, rfl, fun j _ h => by omega⟩
  case round =>
    obtain ⟨k, hk, rfl, hN⟩ := hrel
    by_cases hlt : k < 13
    · have hlz : (k : Int) < 13 := by omega
      have hkl : k < sgL.length := hlt
      have hc := HS.out k hkl
      obtain ⟨x, hx⟩ : ∃ x, x = sgL[k] := ⟨_, rfl⟩
      rw [← hx] at hc
      by_cases he : x = s.data.toList
      · have hq : ((bs x).toList == s.toList) = true := by rw [ByteArray.toList_eq, ByteArray.toList_eq, bs_list]; exact beq_iff_eq.2 he
        have HT := Lib.hid (show sgB s.data.toList = true by rw [sg_mem, ← he, hx]; exact List.getElem_mem _)
        clear he hx
        go_wp2
        go_ret
        exact ⟨ret_bool HT.out.symm, hb⟩
      · have hq : ((bs x).toList == s.toList) = false := by rw [ByteArray.toList_eq, ByteArray.toList_eq, bs_list]; exact beq_eq_false_iff_ne.2 he
        have HN := Lib.hid (show NotTo sgL s.data.toList (k + 1) from fun j h h2 => by
          by_cases e : j = k
          · subst e; rw [← hx]; exact he
          · exact hN j h (by omega))
        clear he hx
        go_wp2
        go_round
        case rel => exact ⟨k + 1, by omega, by go_num, HN.out⟩
        case measure => simp [intOf]; omega
    · have hlz : ¬ (k : Int) < 13 := by omega
      have HT := Lib.hid (show sgB s.data.toList = false by
        cases h : sgB s.data.toList
        · rfl
        · rw [sg_mem] at h
          obtain ⟨j, hj, e⟩ := List.getElem_of_mem h
          have hj2 : j < 13 := hj
          exact absurd e (hN j hj (by omega)))
      go_wp2
      go_ret
      exact ⟨ret_bool HT.out.symm, hb⟩
def txB (kd : Int) (l : List UInt8) : Bool :=
  if kd = 2 ∨ kd = 3 ∨ kd = 4 ∨ kd = 5 ∨ kd = 7 ∨ kd = 8 ∨ kd = 9 ∨ kd = 16 ∨ kd = 17 ∨ kd = 18 ∨ kd = 19 ∨ kd = 22 ∨ kd = 23 ∨ kd = 24 ∨ kd = 25 then idB l
  else if kd = 13 then idB l || l == [] else if kd = 26 then l == [45] || l == [33] else if kd = 27 then sgB l else l == []
set_option maxRecDepth 100000 in
set_option maxHeartbeats 1500000 in
theorem tx_2 (n pl : Int) (tx : ByteArray) (K : Option Addr) (m c : Nat) (w : World) (hmax : tx.size ≤ 281474976710656) : Calls Try.prog 33 #[.agg #[.int .i64 2, .int .i64 n, .int .i64 pl, .string tx, .slice K m c]] w (BPost (txB 2 tx.data.toList) w) := by
  have hb : Below w.heap.size w (w.alloc (.cells #[.int .i64 2, .int .i64 n, .int .i64 pl, .string tx, .slice K m c] 24)) := heap1 _ _
  obtain ⟨W, hW⟩ : ∃ W, w.alloc (.cells #[.int .i64 2, .int .i64 n, .int .i64 pl, .string tx, .slice K m c] 24) = W := ⟨_, rfl⟩
  have hB : Bx W w.heap.size 24 [.int .i64 2, .int .i64 n, .int .i64 pl, .string tx, .slice K m c] := by rw [← hW]; exact Bx.new w 24 _
  rw [hW] at hb
  have HC := Lib.hid (rident_any tx W hmax)
  have d3 := hB.cell 3
  simp only [List.getElem?_cons_zero, List.getElem?_cons_succ] at d3
  have HE := Lib.hid (show txB 2 tx.data.toList = idB tx.data.toList by unfold txB; simp)
  generalize idB tx.data.toList = v at *
  go_enter Try.func33, Try.ntmps33
  go_wp2_with (go_at_call 49; refine HC.out.mono ?_)
  rintro e w1 ⟨rfl, hb1⟩
  have hB1 := hB.below hb1 hB.lt
  clear d3
  have d0 := hB1.cell 0
  have d3 := hB1.cell 3
  simp only [List.getElem?_cons_zero, List.getElem?_cons_succ] at d0 d3
  go_wp2
  go_ret
  exact ⟨ret_bool HE.out.symm, bt hb hb1⟩
set_option maxRecDepth 100000 in
set_option maxHeartbeats 1500000 in
theorem tx_3 (n pl : Int) (tx : ByteArray) (K : Option Addr) (m c : Nat) (w : World) (hmax : tx.size ≤ 281474976710656) : Calls Try.prog 33 #[.agg #[.int .i64 3, .int .i64 n, .int .i64 pl, .string tx, .slice K m c]] w (BPost (txB 3 tx.data.toList) w) := by
  have hb : Below w.heap.size w (w.alloc (.cells #[.int .i64 3, .int .i64 n, .int .i64 pl, .string tx, .slice K m c] 24)) := heap1 _ _
  obtain ⟨W, hW⟩ : ∃ W, w.alloc (.cells #[.int .i64 3, .int .i64 n, .int .i64 pl, .string tx, .slice K m c] 24) = W := ⟨_, rfl⟩
  have hB : Bx W w.heap.size 24 [.int .i64 3, .int .i64 n, .int .i64 pl, .string tx, .slice K m c] := by rw [← hW]; exact Bx.new w 24 _
  rw [hW] at hb
  have HC := Lib.hid (rident_any tx W hmax)
  have d3 := hB.cell 3
  simp only [List.getElem?_cons_zero, List.getElem?_cons_succ] at d3
  have HE := Lib.hid (show txB 3 tx.data.toList = idB tx.data.toList by unfold txB; simp)
  generalize idB tx.data.toList = v at *
  go_enter Try.func33, Try.ntmps33
  go_wp2_with (go_at_call 49; refine HC.out.mono ?_)
  rintro e w1 ⟨rfl, hb1⟩
  have hB1 := hB.below hb1 hB.lt
  clear d3
  have d0 := hB1.cell 0
  have d3 := hB1.cell 3
  simp only [List.getElem?_cons_zero, List.getElem?_cons_succ] at d0 d3
  go_wp2
  go_ret
  exact ⟨ret_bool HE.out.symm, bt hb hb1⟩
set_option maxRecDepth 100000 in
set_option maxHeartbeats 1500000 in
theorem tx_4 (n pl : Int) (tx : ByteArray) (K : Option Addr) (m c : Nat) (w : World) (hmax : tx.size ≤ 281474976710656) : Calls Try.prog 33 #[.agg #[.int .i64 4, .int .i64 n, .int .i64 pl, .string tx, .slice K m c]] w (BPost (txB 4 tx.data.toList) w) := by
  have hb : Below w.heap.size w (w.alloc (.cells #[.int .i64 4, .int .i64 n, .int .i64 pl, .string tx, .slice K m c] 24)) := heap1 _ _
  obtain ⟨W, hW⟩ : ∃ W, w.alloc (.cells #[.int .i64 4, .int .i64 n, .int .i64 pl, .string tx, .slice K m c] 24) = W := ⟨_, rfl⟩
  have hB : Bx W w.heap.size 24 [.int .i64 4, .int .i64 n, .int .i64 pl, .string tx, .slice K m c] := by rw [← hW]; exact Bx.new w 24 _
  rw [hW] at hb
  have HC := Lib.hid (rident_any tx W hmax)
  have d3 := hB.cell 3
  simp only [List.getElem?_cons_zero, List.getElem?_cons_succ] at d3
  have HE := Lib.hid (show txB 4 tx.data.toList = idB tx.data.toList by unfold txB; simp)
  generalize idB tx.data.toList = v at *
  go_enter Try.func33, Try.ntmps33
  go_wp2_with (go_at_call 49; refine HC.out.mono ?_)
  rintro e w1 ⟨rfl, hb1⟩
  have hB1 := hB.below hb1 hB.lt
  clear d3
  have d0 := hB1.cell 0
  have d3 := hB1.cell 3
  simp only [List.getElem?_cons_zero, List.getElem?_cons_succ] at d0 d3
  go_wp2
  go_ret
  exact ⟨ret_bool HE.out.symm, bt hb hb1⟩
set_option maxRecDepth 100000 in
set_option maxHeartbeats 1500000 in
theorem tx_5 (n pl : Int) (tx : ByteArray) (K : Option Addr) (m c : Nat) (w : World) (hmax : tx.size ≤ 281474976710656) : Calls Try.prog 33 #[.agg #[.int .i64 5, .int .i64 n, .int .i64 pl, .string tx, .slice K m c]] w (BPost (txB 5 tx.data.toList) w) := by
  have hb : Below w.heap.size w (w.alloc (.cells #[.int .i64 5, .int .i64 n, .int .i64 pl, .string tx, .slice K m c] 24)) := heap1 _ _
  obtain ⟨W, hW⟩ : ∃ W, w.alloc (.cells #[.int .i64 5, .int .i64 n, .int .i64 pl, .string tx, .slice K m c] 24) = W := ⟨_, rfl⟩
  have hB : Bx W w.heap.size 24 [.int .i64 5, .int .i64 n, .int .i64 pl, .string tx, .slice K m c] := by rw [← hW]; exact Bx.new w 24 _
  rw [hW] at hb
  have HC := Lib.hid (rident_any tx W hmax)
  have d3 := hB.cell 3
  simp only [List.getElem?_cons_zero, List.getElem?_cons_succ] at d3
  have HE := Lib.hid (show txB 5 tx.data.toList = idB tx.data.toList by unfold txB; simp)
  generalize idB tx.data.toList = v at *
  go_enter Try.func33, Try.ntmps33
  go_wp2_with (go_at_call 49; refine HC.out.mono ?_)
  rintro e w1 ⟨rfl, hb1⟩
  have hB1 := hB.below hb1 hB.lt
  clear d3
  have d0 := hB1.cell 0
  have d3 := hB1.cell 3
  simp only [List.getElem?_cons_zero, List.getElem?_cons_succ] at d0 d3
  go_wp2
  go_ret
  exact ⟨ret_bool HE.out.symm, bt hb hb1⟩
set_option maxRecDepth 100000 in
set_option maxHeartbeats 1500000 in
theorem tx_7 (n pl : Int) (tx : ByteArray) (K : Option Addr) (m c : Nat) (w : World) (hmax : tx.size ≤ 281474976710656) : Calls Try.prog 33 #[.agg #[.int .i64 7, .int .i64 n, .int .i64 pl, .string tx, .slice K m c]] w (BPost (txB 7 tx.data.toList) w) := by
  have hb : Below w.heap.size w (w.alloc (.cells #[.int .i64 7, .int .i64 n, .int .i64 pl, .string tx, .slice K m c] 24)) := heap1 _ _
  obtain ⟨W, hW⟩ : ∃ W, w.alloc (.cells #[.int .i64 7, .int .i64 n, .int .i64 pl, .string tx, .slice K m c] 24) = W := ⟨_, rfl⟩
  have hB : Bx W w.heap.size 24 [.int .i64 7, .int .i64 n, .int .i64 pl, .string tx, .slice K m c] := by rw [← hW]; exact Bx.new w 24 _
  rw [hW] at hb
  have HC := Lib.hid (rident_any tx W hmax)
  have d3 := hB.cell 3
  simp only [List.getElem?_cons_zero, List.getElem?_cons_succ] at d3
  have HE := Lib.hid (show txB 7 tx.data.toList = idB tx.data.toList by unfold txB; simp)
  generalize idB tx.data.toList = v at *
  go_enter Try.func33, Try.ntmps33
  go_wp2_with (go_at_call 49; refine HC.out.mono ?_)
  rintro e w1 ⟨rfl, hb1⟩
  have hB1 := hB.below hb1 hB.lt
  clear d3
  have d0 := hB1.cell 0
  have d3 := hB1.cell 3
  simp only [List.getElem?_cons_zero, List.getElem?_cons_succ] at d0 d3
  go_wp2
  go_ret
  exact ⟨ret_bool HE.out.symm, bt hb hb1⟩
set_option maxRecDepth 100000 in
set_option maxHeartbeats 1500000 in
theorem tx_8 (n pl : Int) (tx : ByteArray) (K : Option Addr) (m c : Nat) (w : World) (hmax : tx.size ≤ 281474976710656) : Calls Try.prog 33 #[.agg #[.int .i64 8, .int .i64 n, .int .i64 pl, .string tx, .slice K m c]] w (BPost (txB 8 tx.data.toList) w) := by
  have hb : Below w.heap.size w (w.alloc (.cells #[.int .i64 8, .int .i64 n, .int .i64 pl, .string tx, .slice K m c] 24)) := heap1 _ _
  obtain ⟨W, hW⟩ : ∃ W, w.alloc (.cells #[.int .i64 8, .int .i64 n, .int .i64 pl, .string tx, .slice K m c] 24) = W := ⟨_, rfl⟩
  have hB : Bx W w.heap.size 24 [.int .i64 8, .int .i64 n, .int .i64 pl, .string tx, .slice K m c] := by rw [← hW]; exact Bx.new w 24 _
  rw [hW] at hb
  have HC := Lib.hid (rident_any tx W hmax)
  have d3 := hB.cell 3
  simp only [List.getElem?_cons_zero, List.getElem?_cons_succ] at d3
  have HE := Lib.hid (show txB 8 tx.data.toList = idB tx.data.toList by unfold txB; simp)
  generalize idB tx.data.toList = v at *
  go_enter Try.func33, Try.ntmps33
  go_wp2_with (go_at_call 49; refine HC.out.mono ?_)
  rintro e w1 ⟨rfl, hb1⟩
  have hB1 := hB.below hb1 hB.lt
  clear d3
  have d0 := hB1.cell 0
  have d3 := hB1.cell 3
  simp only [List.getElem?_cons_zero, List.getElem?_cons_succ] at d0 d3
  go_wp2
  go_ret
  exact ⟨ret_bool HE.out.symm, bt hb hb1⟩
set_option maxRecDepth 100000 in
set_option maxHeartbeats 1500000 in
theorem tx_9 (n pl : Int) (tx : ByteArray) (K : Option Addr) (m c : Nat) (w : World) (hmax : tx.size ≤ 281474976710656) : Calls Try.prog 33 #[.agg #[.int .i64 9, .int .i64 n, .int .i64 pl, .string tx, .slice K m c]] w (BPost (txB 9 tx.data.toList) w) := by
  have hb : Below w.heap.size w (w.alloc (.cells #[.int .i64 9, .int .i64 n, .int .i64 pl, .string tx, .slice K m c] 24)) := heap1 _ _
  obtain ⟨W, hW⟩ : ∃ W, w.alloc (.cells #[.int .i64 9, .int .i64 n, .int .i64 pl, .string tx, .slice K m c] 24) = W := ⟨_, rfl⟩
  have hB : Bx W w.heap.size 24 [.int .i64 9, .int .i64 n, .int .i64 pl, .string tx, .slice K m c] := by rw [← hW]; exact Bx.new w 24 _
  rw [hW] at hb
  have HC := Lib.hid (rident_any tx W hmax)
  have d3 := hB.cell 3
  simp only [List.getElem?_cons_zero, List.getElem?_cons_succ] at d3
  have HE := Lib.hid (show txB 9 tx.data.toList = idB tx.data.toList by unfold txB; simp)
  generalize idB tx.data.toList = v at *
  go_enter Try.func33, Try.ntmps33
  go_wp2_with (go_at_call 49; refine HC.out.mono ?_)
  rintro e w1 ⟨rfl, hb1⟩
  have hB1 := hB.below hb1 hB.lt
  clear d3
  have d0 := hB1.cell 0
  have d3 := hB1.cell 3
  simp only [List.getElem?_cons_zero, List.getElem?_cons_succ] at d0 d3
  go_wp2
  go_ret
  exact ⟨ret_bool HE.out.symm, bt hb hb1⟩
set_option maxRecDepth 100000 in
set_option maxHeartbeats 1500000 in
theorem tx_16 (n pl : Int) (tx : ByteArray) (K : Option Addr) (m c : Nat) (w : World) (hmax : tx.size ≤ 281474976710656) : Calls Try.prog 33 #[.agg #[.int .i64 16, .int .i64 n, .int .i64 pl, .string tx, .slice K m c]] w (BPost (txB 16 tx.data.toList) w) := by
  have hb : Below w.heap.size w (w.alloc (.cells #[.int .i64 16, .int .i64 n, .int .i64 pl, .string tx, .slice K m c] 24)) := heap1 _ _
  obtain ⟨W, hW⟩ : ∃ W, w.alloc (.cells #[.int .i64 16, .int .i64 n, .int .i64 pl, .string tx, .slice K m c] 24) = W := ⟨_, rfl⟩
  have hB : Bx W w.heap.size 24 [.int .i64 16, .int .i64 n, .int .i64 pl, .string tx, .slice K m c] := by rw [← hW]; exact Bx.new w 24 _
  rw [hW] at hb
  have HC := Lib.hid (rident_any tx W hmax)
  have d3 := hB.cell 3
  simp only [List.getElem?_cons_zero, List.getElem?_cons_succ] at d3
  have HE := Lib.hid (show txB 16 tx.data.toList = idB tx.data.toList by unfold txB; simp)
  generalize idB tx.data.toList = v at *
  go_enter Try.func33, Try.ntmps33
  go_wp2_with (go_at_call 49; refine HC.out.mono ?_)
  rintro e w1 ⟨rfl, hb1⟩
  have hB1 := hB.below hb1 hB.lt
  clear d3
  have d0 := hB1.cell 0
  have d3 := hB1.cell 3
  simp only [List.getElem?_cons_zero, List.getElem?_cons_succ] at d0 d3
  go_wp2
  go_ret
  exact ⟨ret_bool HE.out.symm, bt hb hb1⟩
set_option maxRecDepth 100000 in
set_option maxHeartbeats 1500000 in
theorem tx_17 (n pl : Int) (tx : ByteArray) (K : Option Addr) (m c : Nat) (w : World) (hmax : tx.size ≤ 281474976710656) : Calls Try.prog 33 #[.agg #[.int .i64 17, .int .i64 n, .int .i64 pl, .string tx, .slice K m c]] w (BPost (txB 17 tx.data.toList) w) := by
  have hb : Below w.heap.size w (w.alloc (.cells #[.int .i64 17, .int .i64 n, .int .i64 pl, .string tx, .slice K m c] 24)) := heap1 _ _
  obtain ⟨W, hW⟩ : ∃ W, w.alloc (.cells #[.int .i64 17, .int .i64 n, .int .i64 pl, .string tx, .slice K m c] 24) = W := ⟨_, rfl⟩
  have hB : Bx W w.heap.size 24 [.int .i64 17, .int .i64 n, .int .i64 pl, .string tx, .slice K m c] := by rw [← hW]; exact Bx.new w 24 _
  rw [hW] at hb
  have HC := Lib.hid (rident_any tx W hmax)
  have d3 := hB.cell 3
  simp only [List.getElem?_cons_zero, List.getElem?_cons_succ] at d3
  have HE := Lib.hid (show txB 17 tx.data.toList = idB tx.data.toList by unfold txB; simp)
  generalize idB tx.data.toList = v at *
  go_enter Try.func33, Try.ntmps33
  go_wp2_with (go_at_call 49; refine HC.out.mono ?_)
  rintro e w1 ⟨rfl, hb1⟩
  have hB1 := hB.below hb1 hB.lt
  clear d3
  have d0 := hB1.cell 0
  have d3 := hB1.cell 3
  simp only [List.getElem?_cons_zero, List.getElem?_cons_succ] at d0 d3
  go_wp2
  go_ret
  exact ⟨ret_bool HE.out.symm, bt hb hb1⟩
set_option maxRecDepth 100000 in
set_option maxHeartbeats 1500000 in
theorem tx_18 (n pl : Int) (tx : ByteArray) (K : Option Addr) (m c : Nat) (w : World) (hmax : tx.size ≤ 281474976710656) : Calls Try.prog 33 #[.agg #[.int .i64 18, .int .i64 n, .int .i64 pl, .string tx, .slice K m c]] w (BPost (txB 18 tx.data.toList) w) := by
  have hb : Below w.heap.size w (w.alloc (.cells #[.int .i64 18, .int .i64 n, .int .i64 pl, .string tx, .slice K m c] 24)) := heap1 _ _
  obtain ⟨W, hW⟩ : ∃ W, w.alloc (.cells #[.int .i64 18, .int .i64 n, .int .i64 pl, .string tx, .slice K m c] 24) = W := ⟨_, rfl⟩
  have hB : Bx W w.heap.size 24 [.int .i64 18, .int .i64 n, .int .i64 pl, .string tx, .slice K m c] := by rw [← hW]; exact Bx.new w 24 _
  rw [hW] at hb
  have HC := Lib.hid (rident_any tx W hmax)
  have d3 := hB.cell 3
  simp only [List.getElem?_cons_zero, List.getElem?_cons_succ] at d3
  have HE := Lib.hid (show txB 18 tx.data.toList = idB tx.data.toList by unfold txB; simp)
  generalize idB tx.data.toList = v at *
  go_enter Try.func33, Try.ntmps33
  go_wp2_with (go_at_call 49; refine HC.out.mono ?_)
  rintro e w1 ⟨rfl, hb1⟩
  have hB1 := hB.below hb1 hB.lt
  clear d3
  have d0 := hB1.cell 0
  have d3 := hB1.cell 3
  simp only [List.getElem?_cons_zero, List.getElem?_cons_succ] at d0 d3
  go_wp2
  go_ret
  exact ⟨ret_bool HE.out.symm, bt hb hb1⟩
set_option maxRecDepth 100000 in
set_option maxHeartbeats 1500000 in
theorem tx_19 (n pl : Int) (tx : ByteArray) (K : Option Addr) (m c : Nat) (w : World) (hmax : tx.size ≤ 281474976710656) : Calls Try.prog 33 #[.agg #[.int .i64 19, .int .i64 n, .int .i64 pl, .string tx, .slice K m c]] w (BPost (txB 19 tx.data.toList) w) := by
  have hb : Below w.heap.size w (w.alloc (.cells #[.int .i64 19, .int .i64 n, .int .i64 pl, .string tx, .slice K m c] 24)) := heap1 _ _
  obtain ⟨W, hW⟩ : ∃ W, w.alloc (.cells #[.int .i64 19, .int .i64 n, .int .i64 pl, .string tx, .slice K m c] 24) = W := ⟨_, rfl⟩
  have hB : Bx W w.heap.size 24 [.int .i64 19, .int .i64 n, .int .i64 pl, .string tx, .slice K m c] := by rw [← hW]; exact Bx.new w 24 _
  rw [hW] at hb
  have HC := Lib.hid (rident_any tx W hmax)
  have d3 := hB.cell 3
  simp only [List.getElem?_cons_zero, List.getElem?_cons_succ] at d3
  have HE := Lib.hid (show txB 19 tx.data.toList = idB tx.data.toList by unfold txB; simp)
  generalize idB tx.data.toList = v at *
  go_enter Try.func33, Try.ntmps33
  go_wp2_with (go_at_call 49; refine HC.out.mono ?_)
  rintro e w1 ⟨rfl, hb1⟩
  have hB1 := hB.below hb1 hB.lt
  clear d3
  have d0 := hB1.cell 0
  have d3 := hB1.cell 3
  simp only [List.getElem?_cons_zero, List.getElem?_cons_succ] at d0 d3
  go_wp2
  go_ret
  exact ⟨ret_bool HE.out.symm, bt hb hb1⟩
set_option maxRecDepth 100000 in
set_option maxHeartbeats 1500000 in
theorem tx_22 (n pl : Int) (tx : ByteArray) (K : Option Addr) (m c : Nat) (w : World) (hmax : tx.size ≤ 281474976710656) : Calls Try.prog 33 #[.agg #[.int .i64 22, .int .i64 n, .int .i64 pl, .string tx, .slice K m c]] w (BPost (txB 22 tx.data.toList) w) := by
  have hb : Below w.heap.size w (w.alloc (.cells #[.int .i64 22, .int .i64 n, .int .i64 pl, .string tx, .slice K m c] 24)) := heap1 _ _
  obtain ⟨W, hW⟩ : ∃ W, w.alloc (.cells #[.int .i64 22, .int .i64 n, .int .i64 pl, .string tx, .slice K m c] 24) = W := ⟨_, rfl⟩
  have hB : Bx W w.heap.size 24 [.int .i64 22, .int .i64 n, .int .i64 pl, .string tx, .slice K m c] := by rw [← hW]; exact Bx.new w 24 _
  rw [hW] at hb
  have HC := Lib.hid (rident_any tx W hmax)
  have d3 := hB.cell 3
  simp only [List.getElem?_cons_zero, List.getElem?_cons_succ] at d3
  have HE := Lib.hid (show txB 22 tx.data.toList = idB tx.data.toList by unfold txB; simp)
  generalize idB tx.data.toList = v at *
  go_enter Try.func33, Try.ntmps33
  go_wp2_with (go_at_call 49; refine HC.out.mono ?_)
  rintro e w1 ⟨rfl, hb1⟩
  have hB1 := hB.below hb1 hB.lt
  clear d3
  have d0 := hB1.cell 0
  have d3 := hB1.cell 3
  simp only [List.getElem?_cons_zero, List.getElem?_cons_succ] at d0 d3
  go_wp2
  go_ret
  exact ⟨ret_bool HE.out.symm, bt hb hb1⟩
set_option maxRecDepth 100000 in
set_option maxHeartbeats 1500000 in
theorem tx_23 (n pl : Int) (tx : ByteArray) (K : Option Addr) (m c : Nat) (w : World) (hmax : tx.size ≤ 281474976710656) : Calls Try.prog 33 #[.agg #[.int .i64 23, .int .i64 n, .int .i64 pl, .string tx, .slice K m c]] w (BPost (txB 23 tx.data.toList) w) := by
  have hb : Below w.heap.size w (w.alloc (.cells #[.int .i64 23, .int .i64 n, .int .i64 pl, .string tx, .slice K m c] 24)) := heap1 _ _
  obtain ⟨W, hW⟩ : ∃ W, w.alloc (.cells #[.int .i64 23, .int .i64 n, .int .i64 pl, .string tx, .slice K m c] 24) = W := ⟨_, rfl⟩
  have hB : Bx W w.heap.size 24 [.int .i64 23, .int .i64 n, .int .i64 pl, .string tx, .slice K m c] := by rw [← hW]; exact Bx.new w 24 _
  rw [hW] at hb
  have HC := Lib.hid (rident_any tx W hmax)
  have d3 := hB.cell 3
  simp only [List.getElem?_cons_zero, List.getElem?_cons_succ] at d3
  have HE := Lib.hid (show txB 23 tx.data.toList = idB tx.data.toList by unfold txB; simp)
  generalize idB tx.data.toList = v at *
  go_enter Try.func33, Try.ntmps33
  go_wp2_with (go_at_call 49; refine HC.out.mono ?_)
  rintro e w1 ⟨rfl, hb1⟩
  have hB1 := hB.below hb1 hB.lt
  clear d3
  have d0 := hB1.cell 0
  have d3 := hB1.cell 3
  simp only [List.getElem?_cons_zero, List.getElem?_cons_succ] at d0 d3
  go_wp2
  go_ret
  exact ⟨ret_bool HE.out.symm, bt hb hb1⟩
set_option maxRecDepth 100000 in
set_option maxHeartbeats 1500000 in
theorem tx_24 (n pl : Int) (tx : ByteArray) (K : Option Addr) (m c : Nat) (w : World) (hmax : tx.size ≤ 281474976710656) : Calls Try.prog 33 #[.agg #[.int .i64 24, .int .i64 n, .int .i64 pl, .string tx, .slice K m c]] w (BPost (txB 24 tx.data.toList) w) := by
  have hb : Below w.heap.size w (w.alloc (.cells #[.int .i64 24, .int .i64 n, .int .i64 pl, .string tx, .slice K m c] 24)) := heap1 _ _
  obtain ⟨W, hW⟩ : ∃ W, w.alloc (.cells #[.int .i64 24, .int .i64 n, .int .i64 pl, .string tx, .slice K m c] 24) = W := ⟨_, rfl⟩
  have hB : Bx W w.heap.size 24 [.int .i64 24, .int .i64 n, .int .i64 pl, .string tx, .slice K m c] := by rw [← hW]; exact Bx.new w 24 _
  rw [hW] at hb
  have HC := Lib.hid (rident_any tx W hmax)
  have d3 := hB.cell 3
  simp only [List.getElem?_cons_zero, List.getElem?_cons_succ] at d3
  have HE := Lib.hid (show txB 24 tx.data.toList = idB tx.data.toList by unfold txB; simp)
  generalize idB tx.data.toList = v at *
  go_enter Try.func33, Try.ntmps33
  go_wp2_with (go_at_call 49; refine HC.out.mono ?_)
  rintro e w1 ⟨rfl, hb1⟩
  have hB1 := hB.below hb1 hB.lt
  clear d3
  have d0 := hB1.cell 0
  have d3 := hB1.cell 3
  simp only [List.getElem?_cons_zero, List.getElem?_cons_succ] at d0 d3
  go_wp2
  go_ret
  exact ⟨ret_bool HE.out.symm, bt hb hb1⟩
set_option maxRecDepth 100000 in
set_option maxHeartbeats 1500000 in
theorem tx_25 (n pl : Int) (tx : ByteArray) (K : Option Addr) (m c : Nat) (w : World) (hmax : tx.size ≤ 281474976710656) : Calls Try.prog 33 #[.agg #[.int .i64 25, .int .i64 n, .int .i64 pl, .string tx, .slice K m c]] w (BPost (txB 25 tx.data.toList) w) := by
  have hb : Below w.heap.size w (w.alloc (.cells #[.int .i64 25, .int .i64 n, .int .i64 pl, .string tx, .slice K m c] 24)) := heap1 _ _
  obtain ⟨W, hW⟩ : ∃ W, w.alloc (.cells #[.int .i64 25, .int .i64 n, .int .i64 pl, .string tx, .slice K m c] 24) = W := ⟨_, rfl⟩
  have hB : Bx W w.heap.size 24 [.int .i64 25, .int .i64 n, .int .i64 pl, .string tx, .slice K m c] := by rw [← hW]; exact Bx.new w 24 _
  rw [hW] at hb
  have HC := Lib.hid (rident_any tx W hmax)
  have d3 := hB.cell 3
  simp only [List.getElem?_cons_zero, List.getElem?_cons_succ] at d3
  have HE := Lib.hid (show txB 25 tx.data.toList = idB tx.data.toList by unfold txB; simp)
  generalize idB tx.data.toList = v at *
  go_enter Try.func33, Try.ntmps33
  go_wp2_with (go_at_call 49; refine HC.out.mono ?_)
  rintro e w1 ⟨rfl, hb1⟩
  have hB1 := hB.below hb1 hB.lt
  clear d3
  have d0 := hB1.cell 0
  have d3 := hB1.cell 3
  simp only [List.getElem?_cons_zero, List.getElem?_cons_succ] at d0 d3
  go_wp2
  go_ret
  exact ⟨ret_bool HE.out.symm, bt hb hb1⟩
set_option maxRecDepth 100000 in
set_option maxHeartbeats 1500000 in
theorem tx_13 (n pl : Int) (tx : ByteArray) (K : Option Addr) (m c : Nat) (w : World) (hmax : tx.size ≤ 281474976710656) : Calls Try.prog 33 #[.agg #[.int .i64 13, .int .i64 n, .int .i64 pl, .string tx, .slice K m c]] w (BPost (txB 13 tx.data.toList) w) := by
  have hb : Below w.heap.size w (w.alloc (.cells #[.int .i64 13, .int .i64 n, .int .i64 pl, .string tx, .slice K m c] 24)) := heap1 _ _
  obtain ⟨W, hW⟩ : ∃ W, w.alloc (.cells #[.int .i64 13, .int .i64 n, .int .i64 pl, .string tx, .slice K m c] 24) = W := ⟨_, rfl⟩
  have hB : Bx W w.heap.size 24 [.int .i64 13, .int .i64 n, .int .i64 pl, .string tx, .slice K m c] := by rw [← hW]; exact Bx.new w 24 _
  rw [hW] at hb
  have HC := Lib.hid (rident_any tx W hmax)
  have d3 := hB.cell 3
  simp only [List.getElem?_cons_zero, List.getElem?_cons_succ] at d3
  cases hv : idB tx.data.toList with
  | true =>
    rw [hv] at HC
    have HE := Lib.hid (show txB 13 tx.data.toList = true by unfold txB; simp [hv])
    clear hv
    go_enter Try.func33, Try.ntmps33
    go_wp2_with (go_at_call 49; refine HC.out.mono ?_)
    rintro e w1 ⟨rfl, hb1⟩
    have hB1 := hB.below hb1 hB.lt
    clear d3
    have d0 := hB1.cell 0
    have d3 := hB1.cell 3
    simp only [List.getElem?_cons_zero, List.getElem?_cons_succ] at d0 d3
    go_wp2
    go_ret
    exact ⟨ret_bool HE.out.symm, bt hb hb1⟩
  | false =>
    rw [hv] at HC
    by_cases g : tx.data.toList = []
    · have q : (tx.toList == []) = true := by rw [ByteArray.toList_eq]; exact beq_iff_eq.2 g
      have HE := Lib.hid (show txB 13 tx.data.toList = true by unfold txB; simp [g])
      clear hv g
      go_enter Try.func33, Try.ntmps33
      go_wp2_with (go_at_call 49; refine HC.out.mono ?_)
      rintro e w1 ⟨rfl, hb1⟩
      have hB1 := hB.below hb1 hB.lt
      clear d3
      have d0 := hB1.cell 0
      have d3 := hB1.cell 3
      simp only [List.getElem?_cons_zero, List.getElem?_cons_succ] at d0 d3
      go_wp2
      go_ret
      exact ⟨ret_bool HE.out.symm, bt hb hb1⟩
    · have q : (tx.toList == []) = false := by rw [ByteArray.toList_eq]; exact beq_eq_false_iff_ne.2 g
      have HE := Lib.hid (show txB 13 tx.data.toList = false by generalize tx.data.toList = L at hv g ⊢; unfold txB; simp [hv, g])
      clear hv g
      go_enter Try.func33, Try.ntmps33
      go_wp2_with (go_at_call 49; refine HC.out.mono ?_)
      rintro e w1 ⟨rfl, hb1⟩
      have hB1 := hB.below hb1 hB.lt
      clear d3
      have d0 := hB1.cell 0
      have d3 := hB1.cell 3
      simp only [List.getElem?_cons_zero, List.getElem?_cons_succ] at d0 d3
      go_wp2
      go_ret
      exact ⟨ret_bool HE.out.symm, bt hb hb1⟩
set_option maxRecDepth 100000 in
set_option maxHeartbeats 1500000 in
theorem tx_26 (n pl : Int) (tx : ByteArray) (K : Option Addr) (m c : Nat) (w : World) (hmax : tx.size ≤ 281474976710656) : Calls Try.prog 33 #[.agg #[.int .i64 26, .int .i64 n, .int .i64 pl, .string tx, .slice K m c]] w (BPost (txB 26 tx.data.toList) w) := by
  have hb : Below w.heap.size w (w.alloc (.cells #[.int .i64 26, .int .i64 n, .int .i64 pl, .string tx, .slice K m c] 24)) := heap1 _ _
  obtain ⟨W, hW⟩ : ∃ W, w.alloc (.cells #[.int .i64 26, .int .i64 n, .int .i64 pl, .string tx, .slice K m c] 24) = W := ⟨_, rfl⟩
  have hB : Bx W w.heap.size 24 [.int .i64 26, .int .i64 n, .int .i64 pl, .string tx, .slice K m c] := by rw [← hW]; exact Bx.new w 24 _
  rw [hW] at hb
  have HC := Lib.hid (rident_any tx W hmax)
  have d3 := hB.cell 3
  simp only [List.getElem?_cons_zero, List.getElem?_cons_succ] at d3
  by_cases g : tx.data.toList = [45]
  · have q : (tx.toList == [45]) = true := by rw [ByteArray.toList_eq]; exact beq_iff_eq.2 g
    have HE := Lib.hid (show txB 26 tx.data.toList = true by unfold txB; simp [g])
    generalize idB tx.data.toList = v at *
    clear g
    go_enter Try.func33, Try.ntmps33
    go_wp2_with (go_at_call 49; refine HC.out.mono ?_)
    rintro e w1 ⟨rfl, hb1⟩
    have hB1 := hB.below hb1 hB.lt
    clear d3
    have d0 := hB1.cell 0
    have d3 := hB1.cell 3
    simp only [List.getElem?_cons_zero, List.getElem?_cons_succ] at d0 d3
    go_wp2
    go_ret
    exact ⟨ret_bool HE.out.symm, bt hb hb1⟩
  · have q : (tx.toList == [45]) = false := by rw [ByteArray.toList_eq]; exact beq_eq_false_iff_ne.2 g
    by_cases g2 : tx.data.toList = [33]
    · have q2 : (tx.toList == [33]) = true := by rw [ByteArray.toList_eq]; exact beq_iff_eq.2 g2
      have HE := Lib.hid (show txB 26 tx.data.toList = true by unfold txB; simp [g2])
      generalize idB tx.data.toList = v at *
      clear g g2
      go_enter Try.func33, Try.ntmps33
      go_wp2_with (go_at_call 49; refine HC.out.mono ?_)
      rintro e w1 ⟨rfl, hb1⟩
      have hB1 := hB.below hb1 hB.lt
      clear d3
      have d0 := hB1.cell 0
      have d3 := hB1.cell 3
      simp only [List.getElem?_cons_zero, List.getElem?_cons_succ] at d0 d3
      go_wp2
      go_ret
      exact ⟨ret_bool HE.out.symm, bt hb hb1⟩
    · have q2 : (tx.toList == [33]) = false := by rw [ByteArray.toList_eq]; exact beq_eq_false_iff_ne.2 g2
      have HE := Lib.hid (show txB 26 tx.data.toList = false by unfold txB; simp [g, g2])
      generalize idB tx.data.toList = v at *
      clear g g2
      go_enter Try.func33, Try.ntmps33
      go_wp2_with (go_at_call 49; refine HC.out.mono ?_)
      rintro e w1 ⟨rfl, hb1⟩
      have hB1 := hB.below hb1 hB.lt
      clear d3
      have d0 := hB1.cell 0
      have d3 := hB1.cell 3
      simp only [List.getElem?_cons_zero, List.getElem?_cons_succ] at d0 d3
      go_wp2
      go_ret
      exact ⟨ret_bool HE.out.symm, bt hb hb1⟩
set_option maxRecDepth 100000 in
set_option maxHeartbeats 1500000 in
theorem tx_27 (n pl : Int) (tx : ByteArray) (K : Option Addr) (m c : Nat) (w : World) (hmax : tx.size ≤ 281474976710656) : Calls Try.prog 33 #[.agg #[.int .i64 27, .int .i64 n, .int .i64 pl, .string tx, .slice K m c]] w (BPost (txB 27 tx.data.toList) w) := by
  have hb : Below w.heap.size w (w.alloc (.cells #[.int .i64 27, .int .i64 n, .int .i64 pl, .string tx, .slice K m c] 24)) := heap1 _ _
  obtain ⟨W, hW⟩ : ∃ W, w.alloc (.cells #[.int .i64 27, .int .i64 n, .int .i64 pl, .string tx, .slice K m c] 24) = W := ⟨_, rfl⟩
  have hB : Bx W w.heap.size 24 [.int .i64 27, .int .i64 n, .int .i64 pl, .string tx, .slice K m c] := by rw [← hW]; exact Bx.new w 24 _
  rw [hW] at hb
  have HC := Lib.hid (rident_any tx W hmax)
  have d3 := hB.cell 3
  simp only [List.getElem?_cons_zero, List.getElem?_cons_succ] at d3
  have HE := Lib.hid (show txB 27 tx.data.toList = sgB tx.data.toList by unfold txB; simp)
  generalize idB tx.data.toList = v0 at *
  go_enter Try.func33, Try.ntmps33
  go_wp2_with (go_at_call 49; refine HC.out.mono ?_)
  rintro e w1 ⟨rfl, hb1⟩
  have hB1 := hB.below hb1 hB.lt
  clear d3
  have d0 := hB1.cell 0
  have d3 := hB1.cell 3
  simp only [List.getElem?_cons_zero, List.getElem?_cons_succ] at d0 d3
  have HG := Lib.hid (signed_any tx w1)
  generalize sgB tx.data.toList = v at *
  go_wp2_with (go_at_call 50; refine HG.out.mono ?_; rintro e w2 ⟨rfl, hb2⟩)
  go_ret
  exact ⟨ret_bool HE.out.symm, bt (bt hb hb1) hb2⟩
set_option maxRecDepth 100000 in
set_option maxHeartbeats 1500000 in
theorem tx_no (kd n pl : Int) (tx : ByteArray) (K : Option Addr) (m c : Nat) (w : World) (hmax : tx.size ≤ 281474976710656) (g2 : ¬ kd = 2) (g3 : ¬ kd = 3) (g4 : ¬ kd = 4) (g5 : ¬ kd = 5) (g7 : ¬ kd = 7) (g8 : ¬ kd = 8) (g9 : ¬ kd = 9) (g16 : ¬ kd = 16) (g17 : ¬ kd = 17) (g18 : ¬ kd = 18) (g19 : ¬ kd = 19) (g22 : ¬ kd = 22) (g23 : ¬ kd = 23) (g24 : ¬ kd = 24) (g25 : ¬ kd = 25) (g13 : ¬ kd = 13) (g26 : ¬ kd = 26) (g27 : ¬ kd = 27) : Calls Try.prog 33 #[.agg #[.int .i64 kd, .int .i64 n, .int .i64 pl, .string tx, .slice K m c]] w (BPost (txB kd tx.data.toList) w) := by
  have hb : Below w.heap.size w (w.alloc (.cells #[.int .i64 kd, .int .i64 n, .int .i64 pl, .string tx, .slice K m c] 24)) := heap1 _ _
  obtain ⟨W, hW⟩ : ∃ W, w.alloc (.cells #[.int .i64 kd, .int .i64 n, .int .i64 pl, .string tx, .slice K m c] 24) = W := ⟨_, rfl⟩
  have hB : Bx W w.heap.size 24 [.int .i64 kd, .int .i64 n, .int .i64 pl, .string tx, .slice K m c] := by rw [← hW]; exact Bx.new w 24 _
  rw [hW] at hb
  have HC := Lib.hid (rident_any tx W hmax)
  have d3 := hB.cell 3
  simp only [List.getElem?_cons_zero, List.getElem?_cons_succ] at d3
  have k2 : (kd == 2) = false := by simp [g2]
  have k3 : (kd == 3) = false := by simp [g3]
  have k4 : (kd == 4) = false := by simp [g4]
  have k5 : (kd == 5) = false := by simp [g5]
  have k7 : (kd == 7) = false := by simp [g7]
  have k8 : (kd == 8) = false := by simp [g8]
  have k9 : (kd == 9) = false := by simp [g9]
  have k16 : (kd == 16) = false := by simp [g16]
  have k17 : (kd == 17) = false := by simp [g17]
  have k18 : (kd == 18) = false := by simp [g18]
  have k19 : (kd == 19) = false := by simp [g19]
  have k22 : (kd == 22) = false := by simp [g22]
  have k23 : (kd == 23) = false := by simp [g23]
  have k24 : (kd == 24) = false := by simp [g24]
  have k25 : (kd == 25) = false := by simp [g25]
  have k13 : (kd == 13) = false := by simp [g13]
  have k26 : (kd == 26) = false := by simp [g26]
  have k27 : (kd == 27) = false := by simp [g27]
  by_cases g : tx.data.toList = []
  · have q : (tx.toList == []) = true := by rw [ByteArray.toList_eq]; exact beq_iff_eq.2 g
    have HE := Lib.hid (show txB kd tx.data.toList = true by unfold txB; simp [g, g2, g3, g4, g5, g7, g8, g9, g16, g17, g18, g19, g22, g23, g24, g25, g13, g26, g27])
    generalize idB tx.data.toList = v at *
    clear g
    go_enter Try.func33, Try.ntmps33
    go_wp2_with (go_at_call 49; refine HC.out.mono ?_)
    rintro e w1 ⟨rfl, hb1⟩
    have hB1 := hB.below hb1 hB.lt
    clear d3
    have d0 := hB1.cell 0
    have d3 := hB1.cell 3
    simp only [List.getElem?_cons_zero, List.getElem?_cons_succ] at d0 d3
    go_wp2
    go_ret
    exact ⟨ret_bool HE.out.symm, bt hb hb1⟩
  · have q : (tx.toList == []) = false := by rw [ByteArray.toList_eq]; exact beq_eq_false_iff_ne.2 g
    have HE := Lib.hid (show txB kd tx.data.toList = false by generalize tx.data.toList = L at g ⊢; unfold txB; simp [g, g2, g3, g4, g5, g7, g8, g9, g16, g17, g18, g19, g22, g23, g24, g25, g13, g26, g27])
    generalize idB tx.data.toList = v at *
    clear g
    go_enter Try.func33, Try.ntmps33
    go_wp2_with (go_at_call 49; refine HC.out.mono ?_)
    rintro e w1 ⟨rfl, hb1⟩
    have hB1 := hB.below hb1 hB.lt
    clear d3
    have d0 := hB1.cell 0
    have d3 := hB1.cell 3
    simp only [List.getElem?_cons_zero, List.getElem?_cons_succ] at d0 d3
    go_wp2
    go_ret
    exact ⟨ret_bool HE.out.symm, bt hb hb1⟩
/-- the document's texts, at any node -/
theorem texts_any (kd n pl : Int) (tx : ByteArray) (K : Option Addr) (m c : Nat) (w : World) (hmax : tx.size ≤ 281474976710656) : Calls Try.prog 33 #[.agg #[.int .i64 kd, .int .i64 n, .int .i64 pl, .string tx, .slice K m c]] w (BPost (txB kd tx.data.toList) w) := by
  by_cases g2 : kd = 2
  · subst g2; exact tx_2 n pl tx K m c w hmax
  by_cases g3 : kd = 3
  · subst g3; exact tx_3 n pl tx K m c w hmax
  by_cases g4 : kd = 4
  · subst g4; exact tx_4 n pl tx K m c w hmax
  by_cases g5 : kd = 5
  · subst g5; exact tx_5 n pl tx K m c w hmax
  by_cases g7 : kd = 7
  · subst g7; exact tx_7 n pl tx K m c w hmax
  by_cases g8 : kd = 8
  · subst g8; exact tx_8 n pl tx K m c w hmax
  by_cases g9 : kd = 9
  · subst g9; exact tx_9 n pl tx K m c w hmax
  by_cases g16 : kd = 16
  · subst g16; exact tx_16 n pl tx K m c w hmax
  by_cases g17 : kd = 17
  · subst g17; exact tx_17 n pl tx K m c w hmax
  by_cases g18 : kd = 18
  · subst g18; exact tx_18 n pl tx K m c w hmax
  by_cases g19 : kd = 19
  · subst g19; exact tx_19 n pl tx K m c w hmax
  by_cases g22 : kd = 22
  · subst g22; exact tx_22 n pl tx K m c w hmax
  by_cases g23 : kd = 23
  · subst g23; exact tx_23 n pl tx K m c w hmax
  by_cases g24 : kd = 24
  · subst g24; exact tx_24 n pl tx K m c w hmax
  by_cases g25 : kd = 25
  · subst g25; exact tx_25 n pl tx K m c w hmax
  by_cases g13 : kd = 13
  · subst g13; exact tx_13 n pl tx K m c w hmax
  by_cases g26 : kd = 26
  · subst g26; exact tx_26 n pl tx K m c w hmax
  by_cases g27 : kd = 27
  · subst g27; exact tx_27 n pl tx K m c w hmax
  exact tx_no kd n pl tx K m c w hmax g2 g3 g4 g5 g7 g8 g9 g16 g17 g18 g19 g22 g23 g24 g25 g13 g26 g27
end Go.Proofs.Ytcnmkmdedeiffaa
