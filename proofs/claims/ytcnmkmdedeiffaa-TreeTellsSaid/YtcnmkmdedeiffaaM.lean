/- PROVED here: the contract of shown. No condition but those in each theorem's own head. -/
import Derived.Test.YtcnmkmdedeiffaaL
namespace Go.Proofs.Ytcnmkmdedeiffaa
open Go Go.RowKit

theorem int_blk (w : World) (l : List Int) : Ints (w.alloc (.cells (l.map fun x => Value.int .i64 x).toArray 3)) (some ⟨w.heap.size, 0, none⟩) l := fun _ => by
  have hB := Bx.new w 3 (l.map fun x => Value.int .i64 x)
  refine ⟨_, _, rfl, hB.lt, fun j hj => ?_⟩
  rw [Nat.zero_add, hB.cell j]; simp [hj]
set_option maxRecDepth 100000 in
set_option maxHeartbeats 1000000 in
theorem shown_any (w : World) : Calls Try.prog 8 #[] w (BPost true w) := by
  have e0 : ∀ (w' : World) (o : Obj), (w'.alloc o).heap.size = w'.heap.size + 1 := fun w' o => World.size_alloc w' o
  go_enter Try.func8, Try.ntmps8
  go_wp2_with (go_at_call 10; refine (over_nil _ _ _ _ _ _ _ _).mono ?_)
  rintro e w1 ⟨A, c, rfl, hN, hc, hb⟩
  rw [X0_eq] at hN hc ⊢
  rw [show X0.length = 1 from rfl] at hc ⊢
  have hN' := hN.below (heap1 w1 (.cells #[.slice A 1 c, .int .i64 0] 30))
  have hT := trs_one (r := 0) hN' (rfl : 1 = X0.length) hc
  rw [e0] at hT
  have H1 := Lib.hid (fun tx => over_one 7 0 0 tx none 0 0 (some ⟨w1.heap.size + 1, 0, none⟩) 1 1 X0 0 _ hT rfl (by decide) X0_ks)
  clear hT
  have hb1 := ((hb.alloc hb.size (.cells #[.slice A 1 c, .int .i64 0] 30))).alloc (by rw [e0]; have := hb.size; omega) (.cells #[.slice A 1 c, .int .i64 0] 30)
  clear hN hN' hb
  go_wp2_with (go_at_call 10; refine (H1.out _).mono ?_)
  rintro e w2 ⟨A1, c1, rfl, hN, hc1, hb2⟩
  clear H1
  rw [X1_eq] at hN hc1 ⊢
  rw [show X1.length = 2 from rfl] at hc1 ⊢
  rw [show (X0.length : Int) = 1 from rfl]
  have hN' := hN.below (heap1 w2 (.cells #[.slice A1 2 c1, .int .i64 1] 30))
  have hT := trs_one (r := 1) hN' (rfl : 2 = X1.length) hc1
  rw [e0] at hT
  have H1 := Lib.hid (fun tx => over_one 6 0 0 tx none 0 0 (some ⟨w2.heap.size + 1, 0, none⟩) 1 1 X1 1 _ hT rfl (by decide) X1_ks)
  clear hT
  have hB2 := (Bx.new w2 30 [.slice A1 2 c1, .int .i64 1]).alloc (.cells #[.slice A1 2 c1, .int .i64 1] 30)
  have hN2 := hN'.below (heap1 _ (.cells #[.slice A1 2 c1, .int .i64 1] 30))
  have hb3 := bt hb1 hb2
  clear hN hN' hb1 hb2
  have hb4 := ((hb3.alloc hb3.size (.cells #[.slice A1 2 c1, .int .i64 1] 30))).alloc (by rw [e0]; have := hb3.size; omega) (.cells #[.slice A1 2 c1, .int .i64 1] 30)
  clear hb3
  go_wp2_with (go_at_call 10; refine (H1.out _).mono ?_)
  rintro e w3 ⟨A2, c2, rfl, hN3, hc2, hb5⟩
  clear H1
  rw [X2_eq] at hN3 hc2 ⊢
  rw [show X2.length = 3 from rfl] at hc2 ⊢
  rw [show (X1.length : Int) = 2 from rfl]
  have hB3 := hB2.below hb5 hB2.lt
  have hN4 := hN2.below hb5
  have hb6 := bt hb4 hb5
  clear hB2 hN2 hb4 hb5
  go_upto_region 4 with (fail)
  refine gen_world (fun W => Bx W w2.heap.size 30 [.slice A1 2 c1, .int .i64 1] ∧ Nds W A1 X1 ∧ Bx W w3.heap.size 30 [.slice A2 3 c2, .int .i64 2] ∧ Nds W A2 X2 ∧ Below w.heap.size w W) ⟨hB3.alloc _, hN4.below (heap1 _ _), Bx.new w3 30 _, hN3.below (heap1 _ _), hb6.alloc hb6.size _⟩ ?_
  clear hB3 hN4 hN3 hb6
  rintro W ⟨hB, hN1, hC, hN2, hb⟩
  obtain ⟨bA, off, rfl, hbA, hc0⟩ := hN1 (by decide)
  obtain ⟨K, cK, _, _, _, _, hk4, hIK⟩ := hc0 1 (by decide)
  have hk5 : W.cell? ⟨bA, off + 5 + 4, none⟩ = some (.slice K 1 cK) := hk4
  have b0 := hB.cell 0
  have b1 := hB.cell 1
  have d0 := hC.cell 0
  have d1 := hC.cell 1
  simp only [List.getElem?_cons_zero, List.getElem?_cons_succ] at b0 b1 d0 d1
  have HS1 := Lib.hid (fun (W' : World) (B : Option Addr) (c' : Nat) (hB : Ints W' B [0]) (hb' : Below W.heap.size W W') => ints_true K B 1 cK c' [0] W' (hIK.below hb') hB rfl (by omega))
  clear hc0 hk4
  go_wp2_with (first | (go_at_call 21; refine (HS1.out _ _ _ ?c1 ?c2).mono ?_))
  case c1 => exact int_blk _ [0]
  case c2 => exact heap1 _ _
  rintro e w4 ⟨rfl, hb4⟩
  clear HS1
  have hb5 := bt (heap1 W (.cells #[.int .i64 0] 3)) hb4
  have hC4 := hC.below hb5 hC.lt
  have hN5 := hN2.below hb5
  have hb6 := bt hb hb5
  clear hC hN2 hb hb4 hb5 hB hN1 hIK b0 b1 d0 d1 hk5
  have d0 := hC4.cell 0
  have d1 := hC4.cell 1
  simp only [List.getElem?_cons_zero, List.getElem?_cons_succ] at d0 d1
  have HD := Lib.hid (depth_any A2 c2 3 X2 2 w4 hN5 rfl X_ks)
  rw [X2_dp] at HD
  go_wp2_with (first | (go_at_call 19; refine HD.out.mono ?_))
  rintro e w5 ⟨rfl, hb7⟩
  clear HD
  have hC5 := hC4.below hb7 hC4.lt
  have hN6 := hN5.below hb7
  have hb8 := bt hb6 hb7
  clear hC4 hN5 hb7 hb6 d0 d1
  have d0 := hC5.cell 0
  have d1 := hC5.cell 1
  simp only [List.getElem?_cons_zero, List.getElem?_cons_succ] at d0 d1
  have HP := Lib.hid (parents_any A2 c2 3 X2 2 w5 hN6 rfl X_ks)
  rw [X2_par] at HP
  go_wp2_with (first | (go_at_call 22; refine HP.out.mono ?_))
  rintro e w6 ⟨A6, c6, rfl, hI6, hb9⟩
  clear HP
  have hb10 := bt hb8 hb9
  have hI7 := hI6.below (heap1 w6 (.cells #[.int .i64 1, .int .i64 2, .int .i64 (-1)] 3))
  have hI8 := int_blk w6 [1, 2, -1]
  have HS2 := Lib.hid (ints_true A6 (some ⟨w6.heap.size, 0, none⟩) 3 c6 3 [1, 2, -1] _ hI7 hI8 rfl (by omega))
  rw [show ([1, 2, -1] : List Int).length = 3 from rfl]
  clear hI6 hI7 hI8 hb8 hb9 hC5 hN6 d0 d1
  go_wp2_with (first | (go_at_call 21; refine HS2.out.mono ?_))
  rintro e w7 ⟨rfl, hb11⟩
  go_wp2
  go_ret
  exact ⟨rfl, bt (hb10.alloc hb10.size _) hb11⟩
end Go.Proofs.Ytcnmkmdedeiffaa
