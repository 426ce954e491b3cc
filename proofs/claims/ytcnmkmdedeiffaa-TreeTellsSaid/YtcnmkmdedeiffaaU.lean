/- PROVED here: the contract of like at two trees that are the same. No condition but those in each theorem's own head. -/
import Derived.Test.YtcnmkmdedeiffaaK
namespace Go.Proofs.Ytcnmkmdedeiffaa
open Go Go.RowKit

set_option maxRecDepth 100000 in
set_option maxHeartbeats 1500000 in
theorem like_true (A B : Option Addr) (ca cb n : Nat) (l : List Nd) (r : Int) (w : World) (hA : Nds w A l) (hB : Nds w B l) (hn : n = l.length) (hl : n ≤ 10000000) (hk : ∀ x ∈ l, x.ks.length ≤ 100000000) :
    Calls Try.prog 12 #[.agg #[.slice A n ca, .int .i64 r], .agg #[.slice B n cb, .int .i64 r]] w (BPost true w) := by
  have e0 : ∀ (w' : World) (o : Obj), (w'.alloc o).heap.size = w'.heap.size + 1 := fun w' o => World.size_alloc w' o
  obtain ⟨W, hW⟩ : ∃ W, (w.alloc (.cells #[.slice A n ca, .int .i64 r] 30)).alloc (.cells #[.slice B n cb, .int .i64 r] 30) = W := ⟨_, rfl⟩
  have hb : Below w.heap.size w W := by rw [← hW]; exact (heap1 _ _).alloc (by rw [e0]; omega) _
  have hB1 : Bx W w.heap.size 30 [.slice A n ca, .int .i64 r] := by rw [← hW]; exact (Bx.new w 30 _).alloc _
  have hB2 : Bx W (w.heap.size + 1) 30 [.slice B n cb, .int .i64 r] := by
    rw [← hW]
    have := Bx.new (w.alloc (.cells #[.slice A n ca, .int .i64 r] 30)) 30 [.slice B n cb, .int .i64 r]
    rw [e0] at this; exact this
  have HA := Lib.hid (hA.below hb)
  have HB := Lib.hid (hB.below hb)
  have HN := Lib.hid hn
  have HK := Lib.hid hk
  clear hA hB hn hk
  have hq1 : ((n : Int) != (n : Int)) = false := by simp
  have hq2 : (r != r) = false := by simp
  have d0 := hB1.cell 0
  have d1 := hB1.cell 1
  have f0 := hB2.cell 0
  have f1 := hB2.cell 1
  simp only [List.getElem?_cons_zero, List.getElem?_cons_succ] at d0 d1 f0 f1
  have HB1 := Lib.hid (And.intro hB1 (And.intro hB2 hb))
  clear hB1 hB2 hb
  go_enter Try.func12, Try.ntmps12
  go_wp2
  clear d0 d1 f0 f1
  go_loopw [5] (fun i wr => ∃ j : Nat, j ≤ n ∧ i = .int .i64 (j : Int) ∧ Below W.heap.size W wr) (fun i _ => n - (intOf i).toNat)
  case atStart => exact ⟨0, Nat.zero_le _, rfl, Below.refl _ _⟩
  case round =>
    obtain ⟨j, hj, rfl, hbw⟩ := hrel
    obtain ⟨hB1, hB2, hb⟩ := HB1.out
    have hC1 := hB1.below hbw hB1.lt
    have hC2 := hB2.below hbw hB2.lt
    have d0 := hC1.cell 0
    have d1 := hC1.cell 1
    simp only [List.getElem?_cons_zero, List.getElem?_cons_succ] at d0 d1
    by_cases hlt : j < n
    · have hlz : (j : Int) < (n : Int) := by omega
      have hjl : j < l.length := by rw [← HN.out]; exact hlt
      obtain ⟨bA, oA, rfl, hbA, hcA⟩ := (HA.out.below hbw) (by omega)
      obtain ⟨bB, oB, rfl, hbB, hcB⟩ := (HB.out.below hbw) (by omega)
      obtain ⟨K, ck, a0, a1, a2, a3, a4, hI⟩ := hcA j hjl
      obtain ⟨K', ck', b0, b1, b2, b3, b4, hI'⟩ := hcB j hjl
      have hks := HK.out _ (List.getElem_mem hjl)
      clear hcA hcB
      generalize l[j] = x at *
      obtain ⟨kd, nn, pl, tx, ks⟩ := x
      dsimp only at a0 a1 a2 a3 a4 hI b0 b1 b2 b3 b4 hI' hks
      have g0 : (bA < wr.heap.size) := hbA
      have f0 := (hC2.alloc (.cells #[.int .i64 kd, .int .i64 nn, .int .i64 pl, .string tx, .slice K ks.length ck] 24)).cell 0
      simp only [List.getElem?_cons_zero] at f0
      have c0 := ((heap1 wr (.cells #[.int .i64 kd, .int .i64 nn, .int .i64 pl, .string tx, .slice K ks.length ck] 24)).cell (p := ⟨bB, oB + j * 5, none⟩) hbB).trans b0
      have c1 := ((heap1 wr (.cells #[.int .i64 kd, .int .i64 nn, .int .i64 pl, .string tx, .slice K ks.length ck] 24)).cell (p := ⟨bB, oB + j * 5 + 1, none⟩) hbB).trans b1
      have c2 := ((heap1 wr (.cells #[.int .i64 kd, .int .i64 nn, .int .i64 pl, .string tx, .slice K ks.length ck] 24)).cell (p := ⟨bB, oB + j * 5 + 2, none⟩) hbB).trans b2
      have c3 := ((heap1 wr (.cells #[.int .i64 kd, .int .i64 nn, .int .i64 pl, .string tx, .slice K ks.length ck] 24)).cell (p := ⟨bB, oB + j * 5 + 3, none⟩) hbB).trans b3
      have c4 := ((heap1 wr (.cells #[.int .i64 kd, .int .i64 nn, .int .i64 pl, .string tx, .slice K ks.length ck] 24)).cell (p := ⟨bB, oB + j * 5 + 4, none⟩) hbB).trans b4
      clear b0 b1 b2 b3 b4
      have hb8 := (hbw.alloc hbw.size (.cells #[.int .i64 kd, .int .i64 nn, .int .i64 pl, .string tx, .slice K ks.length ck] 24)).alloc (by have := hbw.size; rw [e0]; omega) (.cells #[.int .i64 kd, .int .i64 nn, .int .i64 pl, .string tx, .slice K' ks.length ck'] 24)
      have HI := Lib.hid (ints_true K K' ks.length ck ck' ks _ ((hI.below (heap1 wr (.cells #[.int .i64 kd, .int .i64 nn, .int .i64 pl, .string tx, .slice K ks.length ck] 24))).below (heap1 _ (.cells #[.int .i64 kd, .int .i64 nn, .int .i64 pl, .string tx, .slice K' ks.length ck'] 24))) ((hI'.below (heap1 wr (.cells #[.int .i64 kd, .int .i64 nn, .int .i64 pl, .string tx, .slice K ks.length ck] 24))).below (heap1 _ (.cells #[.int .i64 kd, .int .i64 nn, .int .i64 pl, .string tx, .slice K' ks.length ck'] 24))) rfl hks)
      have q1 : (kd != kd) = false := by simp
      have q2 : (nn != nn) = false := by simp
      have q3 : (pl != pl) = false := by simp
      clear hI hI'
      go_wp2_with (go_at_call 21; refine HI.out.mono ?_)
      rintro e w7 ⟨rfl, hb9⟩
      go_wp2
      go_roundw
      case rel => exact ⟨j + 1, by omega, by go_num, bt hb8 hb9⟩
      case measure => simp [intOf]; omega
    · obtain rfl : j = n := by omega
      have hlz : ¬ (j : Int) < (j : Int) := by omega
      go_wp2
      go_ret
      exact ⟨rfl, bt hb hbw⟩
end Go.Proofs.Ytcnmkmdedeiffaa
