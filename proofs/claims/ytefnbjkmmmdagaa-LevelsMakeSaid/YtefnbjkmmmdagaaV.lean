/- PROVED here: the law LevelsLeast returns true at any names, pairs and numbers. No condition but those in each theorem's own head. -/
import Derived.Test.YtefnbjkmmmdagaaC2
import Derived.Test.YtefnbjkmmmdagaaT
namespace Go.Proofs.Ytefnbjkmmmdagaa
open Go Go.RowKit
theorem cv_mem {n : Nat} {u d : Nat → Nat} {k : Nat} {p : Nat × Nat} (h : p ∈ cvTo n u d k) : p.1 < k ∧ p.2 < n ∧ isC u d p.1 p.2 = true := by
  unfold cvTo cvRow at h
  simp only [List.mem_flatMap, List.mem_range, List.mem_map, List.mem_filter] at h
  obtain ⟨a, ha, b, ⟨hb, hc⟩, rfl⟩ := h
  exact ⟨ha, hb, hc⟩
/-- nothing is between what covers -/
theorem cv_none {n : Nat} {u d : Nat → Nat} (hL : Latt n u d) {x y c : Nat} (hy : y < n) (hc : c < n) (h : isC u d x y = true) (h1 : c ≠ x) (h2 : c ≠ y) (h3 : (u x).testBit c = true) : (u c).testBit y = false := by
  unfold isC at h
  rw [Bool.and_eq_true, beq_iff_eq] at h
  cases h4 : (u c).testBit y with
  | false => rfl
  | true =>
    have e := congrArg (·.testBit c) h.2
    simp only [Nat.testBit_and, Nat.testBit_or, Nat.testBit_two_pow] at e
    rw [h3, hL.turn c y hc hy, h4] at e
    simp at e
    omega
set_option maxRecDepth 100000 in
set_option maxHeartbeats 8000000 in
theorem levelsLeast_any (A : Option Addr) (c : Nat) (l : List ByteArray) (B : Option Addr) (d : Nat) (ps : List (ByteArray × ByteArray)) (x y z : Int) (w : World) (hl : l.length ≤ maxLen) (hc : l.length ≤ c) (hs : ∀ s ∈ l, s.size ≤ maxLen) (hA : Strs w A l) (hps : ps.length ≤ maxLen) (hB : Prs w B ps)
    (hx1 : -9223372036854775808 ≤ x) (hx2 : x ≤ 9223372036854775807) (hy1 : -9223372036854775808 ≤ y) (hy2 : y ≤ 9223372036854775807) (hz1 : -9223372036854775808 ≤ z) (hz2 : z ≤ 9223372036854775807) :
    Calls Try.prog 7 #[.slice A l.length c, .slice B ps.length d, .int .i64 x, .int .i64 y, .int .i64 z] w fun e w' => e = .returned (.bool true) ∧ Below w.heap.size w w' := by
  have HSM := Lib.hid (fun w h1 h2 => small_any A c l B d ps w h1 h2)
  have HNW := Lib.hid (fun w h1 h2 => new_any A c l B d ps w hl hc hs h1 hps h2)
  have HA := Lib.hid hA
  have HB := Lib.hid hB
  have HPX := Lib.hid (fun n h1 h2 w => pick_any x n h1 h2 hx1 hx2 w)
  have HPY := Lib.hid (fun n h1 h2 w => pick_any y n h1 h2 hy1 hy2 w)
  have HPZ := Lib.hid (fun n h1 h2 w => pick_any z n h1 h2 hz1 hz2 w)
  clear hl hc hs hA hps hB hx1 hx2 hy1 hy2 hz1 hz2
  have hnil := nil26
  have hnil' := nil26'
  go_enter Try.func7, Try.ntmps7
  go_upto_region 3 with (first
    | (go_at_call 8; refine (shown_any _).mono ?_; rintro e w1 ⟨rfl, hb1⟩)
    | (go_at_call 9; refine (HSM.out _ (HA.out.below hb1) (HB.out.below hb1)).mono ?_; rintro e w' ⟨b, rfl, rfl⟩))
  cases b with
  | false =>
    go_wp2
    go_ret
    exact ⟨rfl, hb1⟩
  | true =>
    go_upto_region 6 with (go_at_call 10; refine (HNW.out _ (HA.out.below hb1) (HB.out.below hb1)).mono ?_; rintro e w2 hP; rcases hP with ⟨hne, rfl, hb2⟩ | ⟨he, g, hg, rfl, hb2, hLt⟩)
    · generalize newE l ps = r at *
      clear hne
      go_wp2
      go_ret
      exact ⟨rfl, bt hb1 hb2⟩
    · have hL := (new_latt he).1
      have hW : LW w g l (uOf l ps) (dOf l ps) w2 := ⟨Nat.le_trans hb1.size hg, bt hb1 hb2, hLt⟩
      clear he hg hb1 hb2 hLt HSM HNW HA HB
      generalize uOf l ps = u at *
      generalize dOf l ps = dd at *
      have hpos := hL.pos
      have h16 := hL.le16
      have HLT := Lib.hid hL
      clear hL
      go_upto_region 11 with (first
        | (go_at_call 20; refine (len_any g l u dd _ hW.2.2).mono ?_; rintro e w' ⟨rfl, rfl⟩)
        | (go_at_call_of 32 (Value.int IntKind.i64 x); refine (HPX.out l.length hpos (by omega) _).mono ?_; rintro e w' ⟨rfl, rfl⟩)
        | (go_at_call_of 32 (Value.int IntKind.i64 y); refine (HPY.out l.length hpos (by omega) _).mono ?_; rintro e w' ⟨rfl, rfl⟩)
        | (go_at_call_of 32 (Value.int IntKind.i64 z); refine (HPZ.out l.length hpos (by omega) _).mono ?_; rintro e w' ⟨rfl, rfl⟩))
      have ha := pickF_lt x l.length hpos
      have hb := pickF_lt y l.length hpos
      have hc := pickF_lt z l.length hpos
      generalize pickF x l.length = a at *
      generalize pickF y l.length = b at *
      generalize pickF z l.length = c' at *
      have hL := HLT.out
      clear HPX HPY HPZ HLT
      obtain ⟨j, j1, j2, j3⟩ := hL.join ha hb
      obtain ⟨m, m1, m2, m3⟩ := hL.flip.join ha hb
      have J := hL.least j1 j3 (c := c')
      have M := hL.flip.least m1 m3 (c := c')
      rw [hL.turn m a m1 ha, hL.turn m b m1 hb, hL.turn c' a hc ha, hL.turn c' b hc hb, hL.turn c' m hc m1] at M
      have HJ := Lib.hid J
      have HM := Lib.hid M
      clear J M
      have HL := Lib.hid hL
      have E2 := Lib.hid j2
      have F2 := Lib.hid m2
      clear j2 m2 j3 m3 hL
      go_upto_region 13 with (first
        | (go_at_call 16; refine (lw_join HL.out hW ha hb E2.out).mono ?_; rintro e w3 ⟨rfl, hW3⟩)
        | (go_at_call 18; refine (lw_meet HL.out hW3 ha hb F2.out).mono ?_; rintro e w4 ⟨rfl, hW4⟩))
      have hL := HL.out
      go_cut [20] (fun s20 wx => s20 = .bool true ∧ LW w g l u dd wx)
      case first =>
        cases hp : (u a).testBit c' with
        | false =>
          refine p_region ?_
          refine p_move (v := .pointer (some ⟨g, 0, none⟩)) rfl rfl ?_
          simp only [Act.put, List.setIfInBounds_toArray, List.set_cons_zero, List.set_cons_succ]
          refine p_move (v := .int .i64 (a : Int)) rfl rfl ?_
          simp only [Act.put, List.setIfInBounds_toArray, List.set_cons_zero, List.set_cons_succ]
          refine p_move (v := .int .i64 (j : Int)) rfl rfl ?_
          simp only [Act.put, List.setIfInBounds_toArray, List.set_cons_zero, List.set_cons_succ]
          refine p_call (args := #[.pointer (some ⟨g, 0, none⟩), .int .i64 (a : Int), .int .i64 (j : Int)]) (v := .bool true) own14 rfl rfl (lw_below hL hW4 ha j1 HJ.out.1) ?_
          intro wp1 hp1
          simp only [Act.put, List.setIfInBounds_toArray, List.set_cons_zero, List.set_cons_succ]
          refine p_move (v := .bool true) rfl rfl ?_
          simp only [Act.put, List.setIfInBounds_toArray, List.set_cons_zero, List.set_cons_succ]
          refine p_move (v := .pointer (some ⟨g, 0, none⟩)) rfl rfl ?_
          simp only [Act.put, List.setIfInBounds_toArray, List.set_cons_zero, List.set_cons_succ]
          refine p_move (v := .int .i64 (b : Int)) rfl rfl ?_
          simp only [Act.put, List.setIfInBounds_toArray, List.set_cons_zero, List.set_cons_succ]
          refine p_move (v := .int .i64 (j : Int)) rfl rfl ?_
          simp only [Act.put, List.setIfInBounds_toArray, List.set_cons_zero, List.set_cons_succ]
          refine p_call (args := #[.pointer (some ⟨g, 0, none⟩), .int .i64 (b : Int), .int .i64 (j : Int)]) (v := .bool true) own14 rfl rfl (lw_below hL hp1 hb j1 HJ.out.2.1) ?_
          intro wp2 hp2
          simp only [Act.put, List.setIfInBounds_toArray, List.set_cons_zero, List.set_cons_succ]
          refine p_pickT (v := .bool true) rfl rfl rfl ?_
          simp only [Act.put, List.setIfInBounds_toArray, List.set_cons_zero, List.set_cons_succ]
          refine p_move (v := .bool true) rfl rfl ?_
          simp only [Act.put, List.setIfInBounds_toArray, List.set_cons_zero, List.set_cons_succ]
          refine p_move (v := .pointer (some ⟨g, 0, none⟩)) rfl rfl ?_
          simp only [Act.put, List.setIfInBounds_toArray, List.set_cons_zero, List.set_cons_succ]
          refine p_move (v := .int .i64 (a : Int)) rfl rfl ?_
          simp only [Act.put, List.setIfInBounds_toArray, List.set_cons_zero, List.set_cons_succ]
          refine p_move (v := .int .i64 (c' : Int)) rfl rfl ?_
          simp only [Act.put, List.setIfInBounds_toArray, List.set_cons_zero, List.set_cons_succ]
          refine p_call (args := #[.pointer (some ⟨g, 0, none⟩), .int .i64 (a : Int), .int .i64 (c' : Int)]) (v := .bool false) own14 rfl rfl (lw_below hL hp2 ha hc hp) ?_
          intro wp3 hp3
          simp only [Act.put, List.setIfInBounds_toArray, List.set_cons_zero, List.set_cons_succ]
          refine p_not (b := true) rfl rfl rfl ?_
          simp only [Act.put, List.setIfInBounds_toArray, List.set_cons_zero, List.set_cons_succ]
          refine p_move (v := .bool true) rfl rfl ?_
          simp only [Act.put, List.setIfInBounds_toArray, List.set_cons_zero, List.set_cons_succ]
          refine p_skip rfl ?_
          simp only [Act.put, List.setIfInBounds_toArray, List.set_cons_zero, List.set_cons_succ]
          refine p_skip rfl ?_
          simp only [Act.put, List.setIfInBounds_toArray, List.set_cons_zero, List.set_cons_succ]
          refine p_skip rfl ?_
          simp only [Act.put, List.setIfInBounds_toArray, List.set_cons_zero, List.set_cons_succ]
          refine p_skip rfl ?_
          simp only [Act.put, List.setIfInBounds_toArray, List.set_cons_zero, List.set_cons_succ]
          refine p_skip rfl ?_
          simp only [Act.put, List.setIfInBounds_toArray, List.set_cons_zero, List.set_cons_succ]
          refine p_pickT (v := .bool true) rfl rfl rfl ?_
          simp only [Act.put, List.setIfInBounds_toArray, List.set_cons_zero, List.set_cons_succ]
          refine p_move (v := .bool true) rfl rfl ?_
          simp only [Act.put, List.setIfInBounds_toArray, List.set_cons_zero, List.set_cons_succ]
          refine p_skip rfl ?_
          simp only [Act.put, List.setIfInBounds_toArray, List.set_cons_zero, List.set_cons_succ]
          refine p_skip rfl ?_
          simp only [Act.put, List.setIfInBounds_toArray, List.set_cons_zero, List.set_cons_succ]
          refine p_skip rfl ?_
          simp only [Act.put, List.setIfInBounds_toArray, List.set_cons_zero, List.set_cons_succ]
          refine p_skip rfl ?_
          simp only [Act.put, List.setIfInBounds_toArray, List.set_cons_zero, List.set_cons_succ]
          refine p_pickT (v := .bool true) rfl rfl rfl ?_
          simp only [Act.put, List.setIfInBounds_toArray, List.set_cons_zero, List.set_cons_succ]
          refine p_pickT (v := .bool true) rfl rfl rfl ?_
          simp only [Act.put, List.setIfInBounds_toArray, List.set_cons_zero, List.set_cons_succ]
          refine p_assign (v := .bool true) rfl rfl ?_
          simp only [Act.put, List.setIfInBounds_toArray, List.set_cons_zero, List.set_cons_succ]
          refine wpList_nil ?_
          go_wp2_with fail
          go_meet
          exact ⟨rfl, hp3⟩
        | true =>
          cases hq : (u b).testBit c' with
          | false =>
            refine p_region ?_
            refine p_move (v := .pointer (some ⟨g, 0, none⟩)) rfl rfl ?_
            simp only [Act.put, List.setIfInBounds_toArray, List.set_cons_zero, List.set_cons_succ]
            refine p_move (v := .int .i64 (a : Int)) rfl rfl ?_
            simp only [Act.put, List.setIfInBounds_toArray, List.set_cons_zero, List.set_cons_succ]
            refine p_move (v := .int .i64 (j : Int)) rfl rfl ?_
            simp only [Act.put, List.setIfInBounds_toArray, List.set_cons_zero, List.set_cons_succ]
            refine p_call (args := #[.pointer (some ⟨g, 0, none⟩), .int .i64 (a : Int), .int .i64 (j : Int)]) (v := .bool true) own14 rfl rfl (lw_below hL hW4 ha j1 HJ.out.1) ?_
            intro wp1 hp1
            simp only [Act.put, List.setIfInBounds_toArray, List.set_cons_zero, List.set_cons_succ]
            refine p_move (v := .bool true) rfl rfl ?_
            simp only [Act.put, List.setIfInBounds_toArray, List.set_cons_zero, List.set_cons_succ]
            refine p_move (v := .pointer (some ⟨g, 0, none⟩)) rfl rfl ?_
            simp only [Act.put, List.setIfInBounds_toArray, List.set_cons_zero, List.set_cons_succ]
            refine p_move (v := .int .i64 (b : Int)) rfl rfl ?_
            simp only [Act.put, List.setIfInBounds_toArray, List.set_cons_zero, List.set_cons_succ]
            refine p_move (v := .int .i64 (j : Int)) rfl rfl ?_
            simp only [Act.put, List.setIfInBounds_toArray, List.set_cons_zero, List.set_cons_succ]
            refine p_call (args := #[.pointer (some ⟨g, 0, none⟩), .int .i64 (b : Int), .int .i64 (j : Int)]) (v := .bool true) own14 rfl rfl (lw_below hL hp1 hb j1 HJ.out.2.1) ?_
            intro wp2 hp2
            simp only [Act.put, List.setIfInBounds_toArray, List.set_cons_zero, List.set_cons_succ]
            refine p_pickT (v := .bool true) rfl rfl rfl ?_
            simp only [Act.put, List.setIfInBounds_toArray, List.set_cons_zero, List.set_cons_succ]
            refine p_move (v := .bool true) rfl rfl ?_
            simp only [Act.put, List.setIfInBounds_toArray, List.set_cons_zero, List.set_cons_succ]
            refine p_move (v := .pointer (some ⟨g, 0, none⟩)) rfl rfl ?_
            simp only [Act.put, List.setIfInBounds_toArray, List.set_cons_zero, List.set_cons_succ]
            refine p_move (v := .int .i64 (a : Int)) rfl rfl ?_
            simp only [Act.put, List.setIfInBounds_toArray, List.set_cons_zero, List.set_cons_succ]
            refine p_move (v := .int .i64 (c' : Int)) rfl rfl ?_
            simp only [Act.put, List.setIfInBounds_toArray, List.set_cons_zero, List.set_cons_succ]
            refine p_call (args := #[.pointer (some ⟨g, 0, none⟩), .int .i64 (a : Int), .int .i64 (c' : Int)]) (v := .bool true) own14 rfl rfl (lw_below hL hp2 ha hc hp) ?_
            intro wp3 hp3
            simp only [Act.put, List.setIfInBounds_toArray, List.set_cons_zero, List.set_cons_succ]
            refine p_not (b := false) rfl rfl rfl ?_
            simp only [Act.put, List.setIfInBounds_toArray, List.set_cons_zero, List.set_cons_succ]
            refine p_move (v := .bool false) rfl rfl ?_
            simp only [Act.put, List.setIfInBounds_toArray, List.set_cons_zero, List.set_cons_succ]
            refine p_move (v := .pointer (some ⟨g, 0, none⟩)) rfl rfl ?_
            simp only [Act.put, List.setIfInBounds_toArray, List.set_cons_zero, List.set_cons_succ]
            refine p_move (v := .int .i64 (b : Int)) rfl rfl ?_
            simp only [Act.put, List.setIfInBounds_toArray, List.set_cons_zero, List.set_cons_succ]
            refine p_move (v := .int .i64 (c' : Int)) rfl rfl ?_
            simp only [Act.put, List.setIfInBounds_toArray, List.set_cons_zero, List.set_cons_succ]
            refine p_call (args := #[.pointer (some ⟨g, 0, none⟩), .int .i64 (b : Int), .int .i64 (c' : Int)]) (v := .bool false) own14 rfl rfl (lw_below hL hp3 hb hc hq) ?_
            intro wp4 hp4
            simp only [Act.put, List.setIfInBounds_toArray, List.set_cons_zero, List.set_cons_succ]
            refine p_not (b := true) rfl rfl rfl ?_
            simp only [Act.put, List.setIfInBounds_toArray, List.set_cons_zero, List.set_cons_succ]
            refine p_pickF (v := .bool true) rfl rfl rfl ?_
            simp only [Act.put, List.setIfInBounds_toArray, List.set_cons_zero, List.set_cons_succ]
            refine p_move (v := .bool true) rfl rfl ?_
            simp only [Act.put, List.setIfInBounds_toArray, List.set_cons_zero, List.set_cons_succ]
            refine p_skip rfl ?_
            simp only [Act.put, List.setIfInBounds_toArray, List.set_cons_zero, List.set_cons_succ]
            refine p_skip rfl ?_
            simp only [Act.put, List.setIfInBounds_toArray, List.set_cons_zero, List.set_cons_succ]
            refine p_skip rfl ?_
            simp only [Act.put, List.setIfInBounds_toArray, List.set_cons_zero, List.set_cons_succ]
            refine p_skip rfl ?_
            simp only [Act.put, List.setIfInBounds_toArray, List.set_cons_zero, List.set_cons_succ]
            refine p_pickT (v := .bool true) rfl rfl rfl ?_
            simp only [Act.put, List.setIfInBounds_toArray, List.set_cons_zero, List.set_cons_succ]
            refine p_pickT (v := .bool true) rfl rfl rfl ?_
            simp only [Act.put, List.setIfInBounds_toArray, List.set_cons_zero, List.set_cons_succ]
            refine p_assign (v := .bool true) rfl rfl ?_
            simp only [Act.put, List.setIfInBounds_toArray, List.set_cons_zero, List.set_cons_succ]
            refine wpList_nil ?_
            go_wp2_with fail
            go_meet
            exact ⟨rfl, hp4⟩
          | true =>
            have hr := HJ.out.2.2 hp hq
            refine p_region ?_
            refine p_move (v := .pointer (some ⟨g, 0, none⟩)) rfl rfl ?_
            simp only [Act.put, List.setIfInBounds_toArray, List.set_cons_zero, List.set_cons_succ]
            refine p_move (v := .int .i64 (a : Int)) rfl rfl ?_
            simp only [Act.put, List.setIfInBounds_toArray, List.set_cons_zero, List.set_cons_succ]
            refine p_move (v := .int .i64 (j : Int)) rfl rfl ?_
            simp only [Act.put, List.setIfInBounds_toArray, List.set_cons_zero, List.set_cons_succ]
            refine p_call (args := #[.pointer (some ⟨g, 0, none⟩), .int .i64 (a : Int), .int .i64 (j : Int)]) (v := .bool true) own14 rfl rfl (lw_below hL hW4 ha j1 HJ.out.1) ?_
            intro wp1 hp1
            simp only [Act.put, List.setIfInBounds_toArray, List.set_cons_zero, List.set_cons_succ]
            refine p_move (v := .bool true) rfl rfl ?_
            simp only [Act.put, List.setIfInBounds_toArray, List.set_cons_zero, List.set_cons_succ]
            refine p_move (v := .pointer (some ⟨g, 0, none⟩)) rfl rfl ?_
            simp only [Act.put, List.setIfInBounds_toArray, List.set_cons_zero, List.set_cons_succ]
            refine p_move (v := .int .i64 (b : Int)) rfl rfl ?_
            simp only [Act.put, List.setIfInBounds_toArray, List.set_cons_zero, List.set_cons_succ]
            refine p_move (v := .int .i64 (j : Int)) rfl rfl ?_
            simp only [Act.put, List.setIfInBounds_toArray, List.set_cons_zero, List.set_cons_succ]
            refine p_call (args := #[.pointer (some ⟨g, 0, none⟩), .int .i64 (b : Int), .int .i64 (j : Int)]) (v := .bool true) own14 rfl rfl (lw_below hL hp1 hb j1 HJ.out.2.1) ?_
            intro wp2 hp2
            simp only [Act.put, List.setIfInBounds_toArray, List.set_cons_zero, List.set_cons_succ]
            refine p_pickT (v := .bool true) rfl rfl rfl ?_
            simp only [Act.put, List.setIfInBounds_toArray, List.set_cons_zero, List.set_cons_succ]
            refine p_move (v := .bool true) rfl rfl ?_
            simp only [Act.put, List.setIfInBounds_toArray, List.set_cons_zero, List.set_cons_succ]
            refine p_move (v := .pointer (some ⟨g, 0, none⟩)) rfl rfl ?_
            simp only [Act.put, List.setIfInBounds_toArray, List.set_cons_zero, List.set_cons_succ]
            refine p_move (v := .int .i64 (a : Int)) rfl rfl ?_
            simp only [Act.put, List.setIfInBounds_toArray, List.set_cons_zero, List.set_cons_succ]
            refine p_move (v := .int .i64 (c' : Int)) rfl rfl ?_
            simp only [Act.put, List.setIfInBounds_toArray, List.set_cons_zero, List.set_cons_succ]
            refine p_call (args := #[.pointer (some ⟨g, 0, none⟩), .int .i64 (a : Int), .int .i64 (c' : Int)]) (v := .bool true) own14 rfl rfl (lw_below hL hp2 ha hc hp) ?_
            intro wp3 hp3
            simp only [Act.put, List.setIfInBounds_toArray, List.set_cons_zero, List.set_cons_succ]
            refine p_not (b := false) rfl rfl rfl ?_
            simp only [Act.put, List.setIfInBounds_toArray, List.set_cons_zero, List.set_cons_succ]
            refine p_move (v := .bool false) rfl rfl ?_
            simp only [Act.put, List.setIfInBounds_toArray, List.set_cons_zero, List.set_cons_succ]
            refine p_move (v := .pointer (some ⟨g, 0, none⟩)) rfl rfl ?_
            simp only [Act.put, List.setIfInBounds_toArray, List.set_cons_zero, List.set_cons_succ]
            refine p_move (v := .int .i64 (b : Int)) rfl rfl ?_
            simp only [Act.put, List.setIfInBounds_toArray, List.set_cons_zero, List.set_cons_succ]
            refine p_move (v := .int .i64 (c' : Int)) rfl rfl ?_
            simp only [Act.put, List.setIfInBounds_toArray, List.set_cons_zero, List.set_cons_succ]
            refine p_call (args := #[.pointer (some ⟨g, 0, none⟩), .int .i64 (b : Int), .int .i64 (c' : Int)]) (v := .bool true) own14 rfl rfl (lw_below hL hp3 hb hc hq) ?_
            intro wp4 hp4
            simp only [Act.put, List.setIfInBounds_toArray, List.set_cons_zero, List.set_cons_succ]
            refine p_not (b := false) rfl rfl rfl ?_
            simp only [Act.put, List.setIfInBounds_toArray, List.set_cons_zero, List.set_cons_succ]
            refine p_pickF (v := .bool false) rfl rfl rfl ?_
            simp only [Act.put, List.setIfInBounds_toArray, List.set_cons_zero, List.set_cons_succ]
            refine p_move (v := .bool false) rfl rfl ?_
            simp only [Act.put, List.setIfInBounds_toArray, List.set_cons_zero, List.set_cons_succ]
            refine p_move (v := .pointer (some ⟨g, 0, none⟩)) rfl rfl ?_
            simp only [Act.put, List.setIfInBounds_toArray, List.set_cons_zero, List.set_cons_succ]
            refine p_move (v := .int .i64 (j : Int)) rfl rfl ?_
            simp only [Act.put, List.setIfInBounds_toArray, List.set_cons_zero, List.set_cons_succ]
            refine p_move (v := .int .i64 (c' : Int)) rfl rfl ?_
            simp only [Act.put, List.setIfInBounds_toArray, List.set_cons_zero, List.set_cons_succ]
            refine p_call (args := #[.pointer (some ⟨g, 0, none⟩), .int .i64 (j : Int), .int .i64 (c' : Int)]) (v := .bool true) own14 rfl rfl (lw_below hL hp4 j1 hc hr) ?_
            intro wp5 hp5
            simp only [Act.put, List.setIfInBounds_toArray, List.set_cons_zero, List.set_cons_succ]
            refine p_pickF (v := .bool true) rfl rfl rfl ?_
            simp only [Act.put, List.setIfInBounds_toArray, List.set_cons_zero, List.set_cons_succ]
            refine p_pickT (v := .bool true) rfl rfl rfl ?_
            simp only [Act.put, List.setIfInBounds_toArray, List.set_cons_zero, List.set_cons_succ]
            refine p_assign (v := .bool true) rfl rfl ?_
            simp only [Act.put, List.setIfInBounds_toArray, List.set_cons_zero, List.set_cons_succ]
            refine wpList_nil ?_
            go_wp2_with fail
            go_meet
            exact ⟨rfl, hp5⟩
      case rest =>
        obtain ⟨rfl, hW5⟩ := hcut
        clear hW hW3 hW4 HJ
        go_upto_region 14 with fail
        go_cut [21] (fun s21 wx => s21 = .bool true ∧ LW w g l u dd wx)
        case first =>
          cases hp : (u c').testBit a with
          | false =>
            refine p_region ?_
            refine p_move (v := .pointer (some ⟨g, 0, none⟩)) rfl rfl ?_
            simp only [Act.put, List.setIfInBounds_toArray, List.set_cons_zero, List.set_cons_succ]
            refine p_move (v := .int .i64 (m : Int)) rfl rfl ?_
            simp only [Act.put, List.setIfInBounds_toArray, List.set_cons_zero, List.set_cons_succ]
            refine p_move (v := .int .i64 (a : Int)) rfl rfl ?_
            simp only [Act.put, List.setIfInBounds_toArray, List.set_cons_zero, List.set_cons_succ]
            refine p_call (args := #[.pointer (some ⟨g, 0, none⟩), .int .i64 (m : Int), .int .i64 (a : Int)]) (v := .bool true) own14 rfl rfl (lw_below hL hW5 m1 ha HM.out.1) ?_
            intro wp1 hp1
            simp only [Act.put, List.setIfInBounds_toArray, List.set_cons_zero, List.set_cons_succ]
            refine p_move (v := .bool true) rfl rfl ?_
            simp only [Act.put, List.setIfInBounds_toArray, List.set_cons_zero, List.set_cons_succ]
            refine p_move (v := .pointer (some ⟨g, 0, none⟩)) rfl rfl ?_
            simp only [Act.put, List.setIfInBounds_toArray, List.set_cons_zero, List.set_cons_succ]
            refine p_move (v := .int .i64 (m : Int)) rfl rfl ?_
            simp only [Act.put, List.setIfInBounds_toArray, List.set_cons_zero, List.set_cons_succ]
            refine p_move (v := .int .i64 (b : Int)) rfl rfl ?_
            simp only [Act.put, List.setIfInBounds_toArray, List.set_cons_zero, List.set_cons_succ]
            refine p_call (args := #[.pointer (some ⟨g, 0, none⟩), .int .i64 (m : Int), .int .i64 (b : Int)]) (v := .bool true) own14 rfl rfl (lw_below hL hp1 m1 hb HM.out.2.1) ?_
            intro wp2 hp2
            simp only [Act.put, List.setIfInBounds_toArray, List.set_cons_zero, List.set_cons_succ]
            refine p_pickT (v := .bool true) rfl rfl rfl ?_
            simp only [Act.put, List.setIfInBounds_toArray, List.set_cons_zero, List.set_cons_succ]
            refine p_move (v := .bool true) rfl rfl ?_
            simp only [Act.put, List.setIfInBounds_toArray, List.set_cons_zero, List.set_cons_succ]
            refine p_move (v := .pointer (some ⟨g, 0, none⟩)) rfl rfl ?_
            simp only [Act.put, List.setIfInBounds_toArray, List.set_cons_zero, List.set_cons_succ]
            refine p_move (v := .int .i64 (c' : Int)) rfl rfl ?_
            simp only [Act.put, List.setIfInBounds_toArray, List.set_cons_zero, List.set_cons_succ]
            refine p_move (v := .int .i64 (a : Int)) rfl rfl ?_
            simp only [Act.put, List.setIfInBounds_toArray, List.set_cons_zero, List.set_cons_succ]
            refine p_call (args := #[.pointer (some ⟨g, 0, none⟩), .int .i64 (c' : Int), .int .i64 (a : Int)]) (v := .bool false) own14 rfl rfl (lw_below hL hp2 hc ha hp) ?_
            intro wp3 hp3
            simp only [Act.put, List.setIfInBounds_toArray, List.set_cons_zero, List.set_cons_succ]
            refine p_not (b := true) rfl rfl rfl ?_
            simp only [Act.put, List.setIfInBounds_toArray, List.set_cons_zero, List.set_cons_succ]
            refine p_move (v := .bool true) rfl rfl ?_
            simp only [Act.put, List.setIfInBounds_toArray, List.set_cons_zero, List.set_cons_succ]
            refine p_skip rfl ?_
            simp only [Act.put, List.setIfInBounds_toArray, List.set_cons_zero, List.set_cons_succ]
            refine p_skip rfl ?_
            simp only [Act.put, List.setIfInBounds_toArray, List.set_cons_zero, List.set_cons_succ]
            refine p_skip rfl ?_
            simp only [Act.put, List.setIfInBounds_toArray, List.set_cons_zero, List.set_cons_succ]
            refine p_skip rfl ?_
            simp only [Act.put, List.setIfInBounds_toArray, List.set_cons_zero, List.set_cons_succ]
            refine p_skip rfl ?_
            simp only [Act.put, List.setIfInBounds_toArray, List.set_cons_zero, List.set_cons_succ]
            refine p_pickT (v := .bool true) rfl rfl rfl ?_
            simp only [Act.put, List.setIfInBounds_toArray, List.set_cons_zero, List.set_cons_succ]
            refine p_move (v := .bool true) rfl rfl ?_
            simp only [Act.put, List.setIfInBounds_toArray, List.set_cons_zero, List.set_cons_succ]
            refine p_skip rfl ?_
            simp only [Act.put, List.setIfInBounds_toArray, List.set_cons_zero, List.set_cons_succ]
            refine p_skip rfl ?_
            simp only [Act.put, List.setIfInBounds_toArray, List.set_cons_zero, List.set_cons_succ]
            refine p_skip rfl ?_
            simp only [Act.put, List.setIfInBounds_toArray, List.set_cons_zero, List.set_cons_succ]
            refine p_skip rfl ?_
            simp only [Act.put, List.setIfInBounds_toArray, List.set_cons_zero, List.set_cons_succ]
            refine p_pickT (v := .bool true) rfl rfl rfl ?_
            simp only [Act.put, List.setIfInBounds_toArray, List.set_cons_zero, List.set_cons_succ]
            refine p_pickT (v := .bool true) rfl rfl rfl ?_
            simp only [Act.put, List.setIfInBounds_toArray, List.set_cons_zero, List.set_cons_succ]
            refine p_assign (v := .bool true) rfl rfl ?_
            simp only [Act.put, List.setIfInBounds_toArray, List.set_cons_zero, List.set_cons_succ]
            refine wpList_nil ?_
            go_wp2_with fail
            go_meet
            exact ⟨rfl, hp3⟩
          | true =>
            cases hq : (u c').testBit b with
            | false =>
              refine p_region ?_
              refine p_move (v := .pointer (some ⟨g, 0, none⟩)) rfl rfl ?_
              simp only [Act.put, List.setIfInBounds_toArray, List.set_cons_zero, List.set_cons_succ]
              refine p_move (v := .int .i64 (m : Int)) rfl rfl ?_
              simp only [Act.put, List.setIfInBounds_toArray, List.set_cons_zero, List.set_cons_succ]
              refine p_move (v := .int .i64 (a : Int)) rfl rfl ?_
              simp only [Act.put, List.setIfInBounds_toArray, List.set_cons_zero, List.set_cons_succ]
              refine p_call (args := #[.pointer (some ⟨g, 0, none⟩), .int .i64 (m : Int), .int .i64 (a : Int)]) (v := .bool true) own14 rfl rfl (lw_below hL hW5 m1 ha HM.out.1) ?_
              intro wp1 hp1
              simp only [Act.put, List.setIfInBounds_toArray, List.set_cons_zero, List.set_cons_succ]
              refine p_move (v := .bool true) rfl rfl ?_
              simp only [Act.put, List.setIfInBounds_toArray, List.set_cons_zero, List.set_cons_succ]
              refine p_move (v := .pointer (some ⟨g, 0, none⟩)) rfl rfl ?_
              simp only [Act.put, List.setIfInBounds_toArray, List.set_cons_zero, List.set_cons_succ]
              refine p_move (v := .int .i64 (m : Int)) rfl rfl ?_
              simp only [Act.put, List.setIfInBounds_toArray, List.set_cons_zero, List.set_cons_succ]
              refine p_move (v := .int .i64 (b : Int)) rfl rfl ?_
              simp only [Act.put, List.setIfInBounds_toArray, List.set_cons_zero, List.set_cons_succ]
              refine p_call (args := #[.pointer (some ⟨g, 0, none⟩), .int .i64 (m : Int), .int .i64 (b : Int)]) (v := .bool true) own14 rfl rfl (lw_below hL hp1 m1 hb HM.out.2.1) ?_
              intro wp2 hp2
              simp only [Act.put, List.setIfInBounds_toArray, List.set_cons_zero, List.set_cons_succ]
              refine p_pickT (v := .bool true) rfl rfl rfl ?_
              simp only [Act.put, List.setIfInBounds_toArray, List.set_cons_zero, List.set_cons_succ]
              refine p_move (v := .bool true) rfl rfl ?_
              simp only [Act.put, List.setIfInBounds_toArray, List.set_cons_zero, List.set_cons_succ]
              refine p_move (v := .pointer (some ⟨g, 0, none⟩)) rfl rfl ?_
              simp only [Act.put, List.setIfInBounds_toArray, List.set_cons_zero, List.set_cons_succ]
              refine p_move (v := .int .i64 (c' : Int)) rfl rfl ?_
              simp only [Act.put, List.setIfInBounds_toArray, List.set_cons_zero, List.set_cons_succ]
              refine p_move (v := .int .i64 (a : Int)) rfl rfl ?_
              simp only [Act.put, List.setIfInBounds_toArray, List.set_cons_zero, List.set_cons_succ]
              refine p_call (args := #[.pointer (some ⟨g, 0, none⟩), .int .i64 (c' : Int), .int .i64 (a : Int)]) (v := .bool true) own14 rfl rfl (lw_below hL hp2 hc ha hp) ?_
              intro wp3 hp3
              simp only [Act.put, List.setIfInBounds_toArray, List.set_cons_zero, List.set_cons_succ]
              refine p_not (b := false) rfl rfl rfl ?_
              simp only [Act.put, List.setIfInBounds_toArray, List.set_cons_zero, List.set_cons_succ]
              refine p_move (v := .bool false) rfl rfl ?_
              simp only [Act.put, List.setIfInBounds_toArray, List.set_cons_zero, List.set_cons_succ]
              refine p_move (v := .pointer (some ⟨g, 0, none⟩)) rfl rfl ?_
              simp only [Act.put, List.setIfInBounds_toArray, List.set_cons_zero, List.set_cons_succ]
              refine p_move (v := .int .i64 (c' : Int)) rfl rfl ?_
              simp only [Act.put, List.setIfInBounds_toArray, List.set_cons_zero, List.set_cons_succ]
              refine p_move (v := .int .i64 (b : Int)) rfl rfl ?_
              simp only [Act.put, List.setIfInBounds_toArray, List.set_cons_zero, List.set_cons_succ]
              refine p_call (args := #[.pointer (some ⟨g, 0, none⟩), .int .i64 (c' : Int), .int .i64 (b : Int)]) (v := .bool false) own14 rfl rfl (lw_below hL hp3 hc hb hq) ?_
              intro wp4 hp4
              simp only [Act.put, List.setIfInBounds_toArray, List.set_cons_zero, List.set_cons_succ]
              refine p_not (b := true) rfl rfl rfl ?_
              simp only [Act.put, List.setIfInBounds_toArray, List.set_cons_zero, List.set_cons_succ]
              refine p_pickF (v := .bool true) rfl rfl rfl ?_
              simp only [Act.put, List.setIfInBounds_toArray, List.set_cons_zero, List.set_cons_succ]
              refine p_move (v := .bool true) rfl rfl ?_
              simp only [Act.put, List.setIfInBounds_toArray, List.set_cons_zero, List.set_cons_succ]
              refine p_skip rfl ?_
              simp only [Act.put, List.setIfInBounds_toArray, List.set_cons_zero, List.set_cons_succ]
              refine p_skip rfl ?_
              simp only [Act.put, List.setIfInBounds_toArray, List.set_cons_zero, List.set_cons_succ]
              refine p_skip rfl ?_
              simp only [Act.put, List.setIfInBounds_toArray, List.set_cons_zero, List.set_cons_succ]
              refine p_skip rfl ?_
              simp only [Act.put, List.setIfInBounds_toArray, List.set_cons_zero, List.set_cons_succ]
              refine p_pickT (v := .bool true) rfl rfl rfl ?_
              simp only [Act.put, List.setIfInBounds_toArray, List.set_cons_zero, List.set_cons_succ]
              refine p_pickT (v := .bool true) rfl rfl rfl ?_
              simp only [Act.put, List.setIfInBounds_toArray, List.set_cons_zero, List.set_cons_succ]
              refine p_assign (v := .bool true) rfl rfl ?_
              simp only [Act.put, List.setIfInBounds_toArray, List.set_cons_zero, List.set_cons_succ]
              refine wpList_nil ?_
              go_wp2_with fail
              go_meet
              exact ⟨rfl, hp4⟩
            | true =>
              have hr := HM.out.2.2 hp hq
              refine p_region ?_
              refine p_move (v := .pointer (some ⟨g, 0, none⟩)) rfl rfl ?_
              simp only [Act.put, List.setIfInBounds_toArray, List.set_cons_zero, List.set_cons_succ]
              refine p_move (v := .int .i64 (m : Int)) rfl rfl ?_
              simp only [Act.put, List.setIfInBounds_toArray, List.set_cons_zero, List.set_cons_succ]
              refine p_move (v := .int .i64 (a : Int)) rfl rfl ?_
              simp only [Act.put, List.setIfInBounds_toArray, List.set_cons_zero, List.set_cons_succ]
              refine p_call (args := #[.pointer (some ⟨g, 0, none⟩), .int .i64 (m : Int), .int .i64 (a : Int)]) (v := .bool true) own14 rfl rfl (lw_below hL hW5 m1 ha HM.out.1) ?_
              intro wp1 hp1
              simp only [Act.put, List.setIfInBounds_toArray, List.set_cons_zero, List.set_cons_succ]
              refine p_move (v := .bool true) rfl rfl ?_
              simp only [Act.put, List.setIfInBounds_toArray, List.set_cons_zero, List.set_cons_succ]
              refine p_move (v := .pointer (some ⟨g, 0, none⟩)) rfl rfl ?_
              simp only [Act.put, List.setIfInBounds_toArray, List.set_cons_zero, List.set_cons_succ]
              refine p_move (v := .int .i64 (m : Int)) rfl rfl ?_
              simp only [Act.put, List.setIfInBounds_toArray, List.set_cons_zero, List.set_cons_succ]
              refine p_move (v := .int .i64 (b : Int)) rfl rfl ?_
              simp only [Act.put, List.setIfInBounds_toArray, List.set_cons_zero, List.set_cons_succ]
              refine p_call (args := #[.pointer (some ⟨g, 0, none⟩), .int .i64 (m : Int), .int .i64 (b : Int)]) (v := .bool true) own14 rfl rfl (lw_below hL hp1 m1 hb HM.out.2.1) ?_
              intro wp2 hp2
              simp only [Act.put, List.setIfInBounds_toArray, List.set_cons_zero, List.set_cons_succ]
              refine p_pickT (v := .bool true) rfl rfl rfl ?_
              simp only [Act.put, List.setIfInBounds_toArray, List.set_cons_zero, List.set_cons_succ]
              refine p_move (v := .bool true) rfl rfl ?_
              simp only [Act.put, List.setIfInBounds_toArray, List.set_cons_zero, List.set_cons_succ]
              refine p_move (v := .pointer (some ⟨g, 0, none⟩)) rfl rfl ?_
              simp only [Act.put, List.setIfInBounds_toArray, List.set_cons_zero, List.set_cons_succ]
              refine p_move (v := .int .i64 (c' : Int)) rfl rfl ?_
              simp only [Act.put, List.setIfInBounds_toArray, List.set_cons_zero, List.set_cons_succ]
              refine p_move (v := .int .i64 (a : Int)) rfl rfl ?_
              simp only [Act.put, List.setIfInBounds_toArray, List.set_cons_zero, List.set_cons_succ]
              refine p_call (args := #[.pointer (some ⟨g, 0, none⟩), .int .i64 (c' : Int), .int .i64 (a : Int)]) (v := .bool true) own14 rfl rfl (lw_below hL hp2 hc ha hp) ?_
              intro wp3 hp3
              simp only [Act.put, List.setIfInBounds_toArray, List.set_cons_zero, List.set_cons_succ]
              refine p_not (b := false) rfl rfl rfl ?_
              simp only [Act.put, List.setIfInBounds_toArray, List.set_cons_zero, List.set_cons_succ]
              refine p_move (v := .bool false) rfl rfl ?_
              simp only [Act.put, List.setIfInBounds_toArray, List.set_cons_zero, List.set_cons_succ]
              refine p_move (v := .pointer (some ⟨g, 0, none⟩)) rfl rfl ?_
              simp only [Act.put, List.setIfInBounds_toArray, List.set_cons_zero, List.set_cons_succ]
              refine p_move (v := .int .i64 (c' : Int)) rfl rfl ?_
              simp only [Act.put, List.setIfInBounds_toArray, List.set_cons_zero, List.set_cons_succ]
              refine p_move (v := .int .i64 (b : Int)) rfl rfl ?_
              simp only [Act.put, List.setIfInBounds_toArray, List.set_cons_zero, List.set_cons_succ]
              refine p_call (args := #[.pointer (some ⟨g, 0, none⟩), .int .i64 (c' : Int), .int .i64 (b : Int)]) (v := .bool true) own14 rfl rfl (lw_below hL hp3 hc hb hq) ?_
              intro wp4 hp4
              simp only [Act.put, List.setIfInBounds_toArray, List.set_cons_zero, List.set_cons_succ]
              refine p_not (b := false) rfl rfl rfl ?_
              simp only [Act.put, List.setIfInBounds_toArray, List.set_cons_zero, List.set_cons_succ]
              refine p_pickF (v := .bool false) rfl rfl rfl ?_
              simp only [Act.put, List.setIfInBounds_toArray, List.set_cons_zero, List.set_cons_succ]
              refine p_move (v := .bool false) rfl rfl ?_
              simp only [Act.put, List.setIfInBounds_toArray, List.set_cons_zero, List.set_cons_succ]
              refine p_move (v := .pointer (some ⟨g, 0, none⟩)) rfl rfl ?_
              simp only [Act.put, List.setIfInBounds_toArray, List.set_cons_zero, List.set_cons_succ]
              refine p_move (v := .int .i64 (c' : Int)) rfl rfl ?_
              simp only [Act.put, List.setIfInBounds_toArray, List.set_cons_zero, List.set_cons_succ]
              refine p_move (v := .int .i64 (m : Int)) rfl rfl ?_
              simp only [Act.put, List.setIfInBounds_toArray, List.set_cons_zero, List.set_cons_succ]
              refine p_call (args := #[.pointer (some ⟨g, 0, none⟩), .int .i64 (c' : Int), .int .i64 (m : Int)]) (v := .bool true) own14 rfl rfl (lw_below hL hp4 hc m1 hr) ?_
              intro wp5 hp5
              simp only [Act.put, List.setIfInBounds_toArray, List.set_cons_zero, List.set_cons_succ]
              refine p_pickF (v := .bool true) rfl rfl rfl ?_
              simp only [Act.put, List.setIfInBounds_toArray, List.set_cons_zero, List.set_cons_succ]
              refine p_pickT (v := .bool true) rfl rfl rfl ?_
              simp only [Act.put, List.setIfInBounds_toArray, List.set_cons_zero, List.set_cons_succ]
              refine p_assign (v := .bool true) rfl rfl ?_
              simp only [Act.put, List.setIfInBounds_toArray, List.set_cons_zero, List.set_cons_succ]
              refine wpList_nil ?_
              go_wp2_with fail
              go_meet
              exact ⟨rfl, hp5⟩
        case rest =>
          obtain ⟨rfl, hW6⟩ := hcut
          clear hW5 HM hL
          have HCV := Lib.hid (fun w' h => covers_any g l u dd w' h16 HL.out.fitU HL.out.fitD h)
          go_upto_region 17 with (go_at_call 30; refine (HCV.out _ hW6.2.2).mono ?_; rintro e w7 ⟨Ak, ck, rfl, hN, hb7, _⟩)
          have hW7 : LW w g l u dd w7 := ⟨hW6.1, hW6.2.1.trans (hb7.mono hW6.2.1.size), hW6.2.2.below hb7⟩
          have HN := Lib.hid hN
          have HM := Lib.hid (fun j (hj : j < (cvTo l.length u dd l.length).length) => cv_mem (List.getElem_mem hj))
          have hcl : (cvTo l.length u dd l.length).length ≤ 256 := by
            have h1 := cvTo_len l.length u dd l.length
            have h2 : l.length * l.length ≤ 16 * 16 := Nat.mul_le_mul h16 h16
            omega
          clear HCV hW6 hb7 hN
          generalize cvTo l.length u dd l.length = cv at *
          go_loopw [23] (fun i wr => ∃ k : Nat, k ≤ cv.length ∧ i = .int .i64 (k : Int) ∧ ∃ q, wr = w7.drewN q) (fun i _ => cv.length - (intOf i).toNat)
          case atStart => exact ⟨0, by omega, rfl, 0, rfl⟩
          case round =>
            obtain ⟨k, hk, rfl, q, rfl⟩ := hrel
            by_cases hlt : k < cv.length
            · have hlz : (k : Int) < (cv.length : Int) := by omega
              obtain ⟨bb, off, rfl, hbl, hcell⟩ := HN.out (by omega)
              obtain ⟨c1, c2⟩ := hcell k hlt
              obtain ⟨x1, x2, x3⟩ := HM.out k hlt
              have X3 := Lib.hid x3
              clear hcell x3
              generalize cv[k].1 = xx at *
              generalize cv[k].2 = yy at *
              by_cases e1 : c' = xx
              · have hq1 : ((c' : Int) != (xx : Int)) = false := by rw [e1]; simp
                clear e1
                go_wp2
                go_roundw
                case rel => exact ⟨k + 1, by omega, by go_num, q, rfl⟩
                case measure => simp [intOf]; omega
              · have hq1 : ((c' : Int) != (xx : Int)) = true := by rw [bne_iff_ne]; omega
                by_cases e2 : c' = yy
                · have hq2 : ((c' : Int) != (yy : Int)) = false := by rw [e2]; simp
                  clear e1 e2
                  go_wp2
                  go_roundw
                  case rel => exact ⟨k + 1, by omega, by go_num, q, rfl⟩
                  case measure => simp [intOf]; omega
                · have hq2 : ((c' : Int) != (yy : Int)) = true := by rw [bne_iff_ne]; omega
                  have B1 := Lib.hid (fun w' h => below_in g l u dd xx c' w' h16 HL.out.fitU x1 hc h)
                  have B2 := Lib.hid (fun w' h => below_in g l u dd c' yy w' h16 HL.out.fitU hc x2 h)
                  cases h3 : (u xx).testBit c' with
                  | false =>
                    rw [h3] at B1
                    clear h3 e1 e2
                    go_wp2_with (go_at_call 14; refine (B1.out _ (hW7.2.2.drewN q)).mono ?_; rintro e w8 ⟨rfl, q2, rfl⟩)
                    go_roundw
                    case rel => exact ⟨k + 1, by omega, by go_num, _, rfl⟩
                    case measure => simp [intOf]; omega
                  | true =>
                    have h4 := cv_none HL.out x2 hc X3.out e1 e2 h3
                    rw [h3] at B1
                    rw [h4] at B2
                    clear h3 h4 e1 e2
                    go_wp2_with (first
                      | (go_at_call_of 14 (Value.int IntKind.i64 (xx : Int)); refine (B1.out _ (hW7.2.2.drewN q)).mono ?_; rintro e w8 ⟨rfl, q2, rfl⟩)
                      | (go_at_call_of 14 (Value.int IntKind.i64 (yy : Int)); refine (B2.out _ (hW7.2.2.drewN (q + q2))).mono ?_; rintro e w9 ⟨rfl, q3, rfl⟩))
                    go_roundw
                    case rel => exact ⟨k + 1, by omega, by go_num, _, rfl⟩
                    case measure => simp [intOf]; omega
            · have hlz : ¬ (k : Int) < (cv.length : Int) := by omega
              have hBf := below_drewN hW7.2.1 q
              go_wp2
              go_ret
              exact ⟨rfl, hBf⟩
end Go.Proofs.Ytefnbjkmmmdagaa
