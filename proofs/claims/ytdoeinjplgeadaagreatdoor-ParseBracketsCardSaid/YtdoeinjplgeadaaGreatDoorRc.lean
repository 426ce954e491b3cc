/- PROVED here: the contract of shown. No condition but those in each theorem's own head. -/
import Derived.Test.YtdoeinjplgeadaaGreatDoorRb
namespace Go.Proofs.YtdoeinjplgeadaaGreatDoor
open Go Go.RowKit
open Tr (Bx heap1 bt gen_world ret_int ret_bool cell_same)

theorem tree_bad {a : Ans} {p e : Nat} {w : World} {en : Ending} {w' : World} (h : TreePost a w en w') (ha : a = .bad p e) : VPost (.tuple #[.agg #[.slice none 0 0, .int .i64 0], .int .i64 (p : Int), .int .i64 (e : Int)]) w en w' := by
  subst ha
  obtain ⟨A, n, c, r, m, q, er, rfl, hb, rfl, rfl, rfl, rfl, rfl, rfl, rfl⟩ := h
  exact ⟨rfl, hb⟩
def GPost (nd : List Nd) (w : World) (e : Ending) (w' : World) : Prop := ∃ A c, e = .returned (.tuple #[.agg #[.slice A nd.length c, .int .i64 ((nd.length : Int) - 1)], .int .i64 0, .int .i64 0]) ∧ Below w.heap.size w w' ∧ NdsB w.heap.size w' A (nd.map cvN)
theorem tree_good {a : Ans} {nd : List Nd} {k : Nat} {w : World} {en : Ending} {w' : World} (h : TreePost a w en w') (ha : a = .good nd k) : GPost nd w en w' := by
  subst ha
  obtain ⟨A, n, c, r, m, q, er, rfl, hb, rfl, rfl, rfl, rfl, rfl, hN⟩ := h
  exact ⟨A, c, rfl, hb, hN⟩
def G5 (w : World) (e : Ending) (w' : World) : Prop := ∃ A c, e = .returned (.tuple #[.agg #[.slice A 5 c, .int .i64 4], .int .i64 0, .int .i64 0]) ∧ Below w.heap.size w w' ∧ NdsB w.heap.size w' A (nd1.map cvN)
set_option maxRecDepth 100000 in
set_option maxHeartbeats 1500000 in
theorem shown_any (w : World) (hE : Tk.Errs w) : Calls Tryz.prog 8 #[] w (VPost (.bool true) w) := by
  have H1 := Lib.hid (show Calls Tryz.prog 16 #[.string ⟨#[49, 43, 50, 42, 120]⟩] w (G5 w) from (expr_any _ w hE (by decide)).mono fun _ _ q => tree_good q ans1)
  have H2 := Lib.hid (fun w' (q : Below w.heap.size w w') => show Calls Tryz.prog 16 #[.string ⟨#[40, 49]⟩] w' (VPost (.tuple #[.agg #[.slice none 0 0, .int .i64 0], .int .i64 ((2 : Nat) : Int), .int .i64 ((2 : Nat) : Int)]) w') from (expr_any _ w' (hE.below q) (by decide)).mono fun _ _ q => tree_bad q ans2)
  have H3 := Lib.hid (fun w' (q : Below w.heap.size w w') => show Calls Tryz.prog 16 #[.string ⟨#[49, 32, 50]⟩] w' (VPost (.tuple #[.agg #[.slice none 0 0, .int .i64 0], .int .i64 ((2 : Nat) : Int), .int .i64 ((2 : Nat) : Int)]) w') from (expr_any _ w' (hE.below q) (by decide)).mono fun _ _ q => tree_bad q ans3)
  have H4 := Lib.hid (fun w' (q : Below w.heap.size w w') => show Calls Tryz.prog 9 #[.string ⟨#[112, 114, 111, 99, 32, 102, 40, 41, 32, 123, 32, 120, 32, 61, 32, 59, 32, 125]⟩] w' (VPost (.tuple #[.agg #[.slice none 0 0, .int .i64 0], .int .i64 ((15 : Nat) : Int), .int .i64 ((2 : Nat) : Int)]) w') from (program_any _ w' (hE.below q) (by decide)).mono fun _ _ q => tree_bad q ans4)
  clear hE
  go_enter Tryz.func8, Tryz.ntmps8
  go_wp2_with (go_at_call 16; refine H1.out.mono ?_)
  rintro e w1 ⟨A, c, rfl, hb1, hN⟩
  have hz1 := hb1.size
  have HA1 := Lib.hid (bt hb1 (heap1 w1 (.cells #[.slice A 5 c, .int .i64 4] 25)))
  have HN := Lib.hid hN
  clear hb1 hN H1
  go_wp2_with (go_at_call 16; refine (H2.out _ HA1.out).mono ?_)
  rintro e w2 ⟨rfl, hb2⟩
  have HA2 := Lib.hid (bt (bt HA1.out hb2) (heap1 w2 (.cells #[.slice none 0 0, .int .i64 0] 25)))
  have HB2 := Lib.hid hb2
  clear hb2 H2
  go_wp2_with (go_at_call 16; refine (H3.out _ HA2.out).mono ?_)
  rintro e w3 ⟨rfl, hb3⟩
  have HA3 := Lib.hid (bt (bt HA2.out hb3) (heap1 w3 (.cells #[.slice none 0 0, .int .i64 0] 25)))
  have HB3 := Lib.hid hb3
  clear hb3 H3
  go_wp2_with (go_at_call 9; refine (H4.out _ HA3.out).mono ?_)
  rintro e w4 ⟨rfl, hb4⟩
  have k2 := bt (bt (bt (bt HB2.out (heap1 w2 (.cells #[.slice none 0 0, .int .i64 0] 25))) HB3.out) (heap1 w3 (.cells #[.slice none 0 0, .int .i64 0] 25))) hb4
  have hT : Bx w4 w1.heap.size 25 [.slice A 5 c, .int .i64 4] := (Bx.new w1 25 _).below k2 (Bx.new w1 25 _).lt
  have hN4 := (HN.out.below (heap1 w1 (.cells #[.slice A 5 c, .int .i64 4] 25))).below k2
  have hbe := bt HA3.out hb4
  obtain ⟨W5, hW5⟩ : ∃ W5, w4.alloc (.cells #[.slice none 0 0, .int .i64 0] 25) = W5 := ⟨_, rfl⟩
  have hb5 : Below w4.heap.size w4 W5 := by rw [← hW5]; exact heap1 _ _
  have hT5 := hT.below hb5 hT.lt
  have hN5 := hN4.below hb5
  have t0 := (hT5.cell 0).trans rfl
  obtain ⟨b, off, rfl, _, hbl, hc⟩ := hN5 (by decide)
  obtain ⟨K0, c0, _, n0, _⟩ := hc 0 (by decide)
  obtain ⟨K1, c1, _, n1, _⟩ := hc 1 (by decide)
  obtain ⟨K2, c2, _, _, _, x2, _⟩ := hc 2 (by decide)
  obtain ⟨K3, c3, _, _, p3, x3, _⟩ := hc 3 (by decide)
  obtain ⟨K4, c4, _, _, p4, x4, _⟩ := hc 4 (by decide)
  have HE := Lib.hid (bt hbe hb5)
  have HW5 := Lib.hid hW5
  clear hc hT hN4 hbe hb5 hT5 hN5 k2 hb4 hW5 HA1 HA2 HA3 HB2 HB3 H4 HN
  simp only [Nat.zero_mul, Nat.one_mul, Nat.add_zero] at n0 n1
  replace n0 : W5.cell? ⟨b, off + 1, none⟩ = some (.int .i64 1) := n0
  replace n1 : W5.cell? ⟨b, off + 5 + 1, none⟩ = some (.int .i64 2) := n1
  replace x2 : W5.cell? ⟨b, off + 2 * 5 + 3, none⟩ = some (.string ⟨#[120]⟩) := x2
  replace p3 : W5.cell? ⟨b, off + 3 * 5 + 2, none⟩ = some (.int .i64 3) := p3
  replace x3 : W5.cell? ⟨b, off + 3 * 5 + 3, none⟩ = some (.string ⟨#[42]⟩) := x3
  replace p4 : W5.cell? ⟨b, off + 4 * 5 + 2, none⟩ = some (.int .i64 1) := p4
  replace x4 : W5.cell? ⟨b, off + 4 * 5 + 3, none⟩ = some (.string ⟨#[43]⟩) := x4
  go_upto_region 5 with (fail)
  rw [HW5.out]
  go_wp2
  go_ret
  exact ⟨rfl, HE.out⟩
end Go.Proofs.YtdoeinjplgeadaaGreatDoor
