/- PROVED here: the law LevelsLaws returns true at any names, pairs and numbers. No condition but those in each theorem's own head. -/
import Derived.Test.YtefnbjkmmmdagaaS
namespace Go.Proofs.Ytefnbjkmmmdagaa
open Go Go.RowKit
theorem nil26' (w : World) : (binOp .eql 26 (.pointer none) (.pointer none)).run Try.prog w = .ok (.bool true) w := by kernel_rfl
theorem LW.same {w0 w w' : World} {g : Nat} {l : List ByteArray} {u d : Nat → Nat} (h : LW w0 g l u d w) (e : w = w') : LW w0 g l u d w' := e ▸ h
set_option maxRecDepth 100000 in
set_option maxHeartbeats 8000000 in
theorem levelsLaws_any (A : Option Addr) (c : Nat) (l : List ByteArray) (B : Option Addr) (d : Nat) (ps : List (ByteArray × ByteArray)) (x y z : Int) (w : World) (hl : l.length ≤ maxLen) (hc : l.length ≤ c) (hs : ∀ s ∈ l, s.size ≤ maxLen) (hA : Strs w A l) (hps : ps.length ≤ maxLen) (hB : Prs w B ps)
    (hx1 : -9223372036854775808 ≤ x) (hx2 : x ≤ 9223372036854775807) (hy1 : -9223372036854775808 ≤ y) (hy2 : y ≤ 9223372036854775807) (hz1 : -9223372036854775808 ≤ z) (hz2 : z ≤ 9223372036854775807) :
    Calls Try.prog 4 #[.slice A l.length c, .slice B ps.length d, .int .i64 x, .int .i64 y, .int .i64 z] w fun e w' => e = .returned (.bool true) ∧ Below w.heap.size w w' := by
  have HSM := Lib.hid (fun w h1 h2 => small_any A c l B d ps w h1 h2)
  have HNW := Lib.hid (fun w h1 h2 => new_any A c l B d ps w hl hc hs h1 hps h2)
  have HA := Lib.hid hA
  have HB := Lib.hid hB
  have HPX := Lib.hid (fun n h1 h2 w => pick_any x n h1 h2 hx1 hx2 w)
  have HPY := Lib.hid (fun n h1 h2 w => pick_any y n h1 h2 hy1 hy2 w)
  have HPZ := Lib.hid (fun n h1 h2 w => pick_any z n h1 h2 hz1 hz2 w)
  clear hl hc hs hA hps hB hx1 hx2 hy1 hy2 hz1 hz2
  have hnil := nil26
  have hnil' := nil26'
  go_enter Try.func4, Try.ntmps4
  go_upto_region 3 with (first
    | (go_at_call 8; refine (shown_any _).mono ?_; rintro e w1 ⟨rfl, hb1⟩)
    | (go_at_call 9; refine (HSM.out _ (HA.out.below hb1) (HB.out.below hb1)).mono ?_; rintro e w' ⟨b, rfl, rfl⟩))
  cases b with
  | false =>
    go_wp2
    go_ret
    exact ⟨rfl, hb1⟩
  | true =>
    go_upto_region 6 with (go_at_call 10; refine (HNW.out _ (HA.out.below hb1) (HB.out.below hb1)).mono ?_; rintro e w2 hP; rcases hP with ⟨hne, rfl, hb2⟩ | ⟨he, g, hg, rfl, hb2, hLt⟩)
    · have hz : ((newE l ps : Int) != 0) = true := by rw [bne_iff_ne]; omega
      generalize newE l ps = r at *
      clear hne
      go_wp2
      go_ret
      exact ⟨rfl, bt hb1 hb2⟩
    · have hL := (new_latt he).1
      have hW : LW w g l (uOf l ps) (dOf l ps) w2 := ⟨Nat.le_trans hb1.size hg, bt hb1 hb2, hLt⟩
      clear he hg hb1 hb2 hLt HSM HNW HA HB
      generalize uOf l ps = u at *
      generalize dOf l ps = dd at *
      have hpos := hL.pos
      have h16 := hL.le16
      have HLT := Lib.hid hL
      clear hL
      go_upto_region 11 with (first
        | (go_at_call 20; refine (len_any g l u dd _ hW.2.2).mono ?_; rintro e w' ⟨rfl, rfl⟩)
        | (go_at_call_of 32 (Value.int IntKind.i64 x); refine (HPX.out l.length hpos (by omega) _).mono ?_; rintro e w' ⟨rfl, rfl⟩)
        | (go_at_call_of 32 (Value.int IntKind.i64 y); refine (HPY.out l.length hpos (by omega) _).mono ?_; rintro e w' ⟨rfl, rfl⟩)
        | (go_at_call_of 32 (Value.int IntKind.i64 z); refine (HPZ.out l.length hpos (by omega) _).mono ?_; rintro e w' ⟨rfl, rfl⟩))
      have ha := pickF_lt x l.length hpos
      have hb := pickF_lt y l.length hpos
      have hc := pickF_lt z l.length hpos
      generalize pickF x l.length = a at *
      generalize pickF y l.length = b at *
      generalize pickF z l.length = c' at *
      have hL := HLT.out
      clear HPX HPY HPZ HLT
      obtain ⟨jab, jbc, xx, mab, mbc, yy, bo, tp, ⟨l1, l2, l3, l4, l5, l6⟩, ⟨e1, e2, e3, e4, e5, e6⟩, ⟨f1, f2, f3, f4, f5, f6⟩, ⟨g1, g2⟩, ⟨k1, k2, k3, k4, k5⟩⟩ := hL.laws ha hb hc
      refine p_region ?_
      refine p_move (v := .pointer (some ⟨g, 0, none⟩)) rfl rfl ?_
      simp only [Act.put, List.setIfInBounds_toArray, List.set_cons_zero, List.set_cons_succ]
      refine p_move (v := .int .i64 (a : Int)) rfl rfl ?_
      simp only [Act.put, List.setIfInBounds_toArray, List.set_cons_zero, List.set_cons_succ]
      refine p_move (v := .int .i64 (b : Int)) rfl rfl ?_
      simp only [Act.put, List.setIfInBounds_toArray, List.set_cons_zero, List.set_cons_succ]
      refine p_call (args := #[.pointer (some ⟨g, 0, none⟩), .int .i64 (a : Int), .int .i64 (b : Int)]) (v := .int .i64 (jab : Int)) own16 rfl rfl (lw_join hL hW ha hb e1) ?_
      intro wp1 hp1
      simp only [Act.put, List.setIfInBounds_toArray, List.set_cons_zero, List.set_cons_succ]
      refine p_move (v := .pointer (some ⟨g, 0, none⟩)) rfl rfl ?_
      simp only [Act.put, List.setIfInBounds_toArray, List.set_cons_zero, List.set_cons_succ]
      refine p_move (v := .int .i64 (b : Int)) rfl rfl ?_
      simp only [Act.put, List.setIfInBounds_toArray, List.set_cons_zero, List.set_cons_succ]
      refine p_move (v := .int .i64 (a : Int)) rfl rfl ?_
      simp only [Act.put, List.setIfInBounds_toArray, List.set_cons_zero, List.set_cons_succ]
      refine p_call (args := #[.pointer (some ⟨g, 0, none⟩), .int .i64 (b : Int), .int .i64 (a : Int)]) (v := .int .i64 (jab : Int)) own16 rfl rfl (lw_join hL hp1 hb ha e2) ?_
      intro wp2 hp2
      simp only [Act.put, List.setIfInBounds_toArray, List.set_cons_zero, List.set_cons_succ]
      refine p_eqlI (b := true) rfl rfl rfl (by simp) ?_
      simp only [Act.put, List.setIfInBounds_toArray, List.set_cons_zero, List.set_cons_succ]
      refine p_move (v := .bool true) rfl rfl ?_
      simp only [Act.put, List.setIfInBounds_toArray, List.set_cons_zero, List.set_cons_succ]
      refine p_move (v := .pointer (some ⟨g, 0, none⟩)) rfl rfl ?_
      simp only [Act.put, List.setIfInBounds_toArray, List.set_cons_zero, List.set_cons_succ]
      refine p_move (v := .int .i64 (a : Int)) rfl rfl ?_
      simp only [Act.put, List.setIfInBounds_toArray, List.set_cons_zero, List.set_cons_succ]
      refine p_move (v := .int .i64 (b : Int)) rfl rfl ?_
      simp only [Act.put, List.setIfInBounds_toArray, List.set_cons_zero, List.set_cons_succ]
      refine p_call (args := #[.pointer (some ⟨g, 0, none⟩), .int .i64 (a : Int), .int .i64 (b : Int)]) (v := .int .i64 (mab : Int)) own18 rfl rfl (lw_meet hL hp2 ha hb e3) ?_
      intro wp3 hp3
      simp only [Act.put, List.setIfInBounds_toArray, List.set_cons_zero, List.set_cons_succ]
      refine p_move (v := .pointer (some ⟨g, 0, none⟩)) rfl rfl ?_
      simp only [Act.put, List.setIfInBounds_toArray, List.set_cons_zero, List.set_cons_succ]
      refine p_move (v := .int .i64 (b : Int)) rfl rfl ?_
      simp only [Act.put, List.setIfInBounds_toArray, List.set_cons_zero, List.set_cons_succ]
      refine p_move (v := .int .i64 (a : Int)) rfl rfl ?_
      simp only [Act.put, List.setIfInBounds_toArray, List.set_cons_zero, List.set_cons_succ]
      refine p_call (args := #[.pointer (some ⟨g, 0, none⟩), .int .i64 (b : Int), .int .i64 (a : Int)]) (v := .int .i64 (mab : Int)) own18 rfl rfl (lw_meet hL hp3 hb ha e4) ?_
      intro wp4 hp4
      simp only [Act.put, List.setIfInBounds_toArray, List.set_cons_zero, List.set_cons_succ]
      refine p_eqlI (b := true) rfl rfl rfl (by simp) ?_
      simp only [Act.put, List.setIfInBounds_toArray, List.set_cons_zero, List.set_cons_succ]
      refine p_pickT (v := .bool true) rfl rfl rfl ?_
      simp only [Act.put, List.setIfInBounds_toArray, List.set_cons_zero, List.set_cons_succ]
      refine p_move (v := .bool true) rfl rfl ?_
      simp only [Act.put, List.setIfInBounds_toArray, List.set_cons_zero, List.set_cons_succ]
      refine p_move (v := .pointer (some ⟨g, 0, none⟩)) rfl rfl ?_
      simp only [Act.put, List.setIfInBounds_toArray, List.set_cons_zero, List.set_cons_succ]
      refine p_move (v := .int .i64 (a : Int)) rfl rfl ?_
      simp only [Act.put, List.setIfInBounds_toArray, List.set_cons_zero, List.set_cons_succ]
      refine p_move (v := .pointer (some ⟨g, 0, none⟩)) rfl rfl ?_
      simp only [Act.put, List.setIfInBounds_toArray, List.set_cons_zero, List.set_cons_succ]
      refine p_move (v := .int .i64 (b : Int)) rfl rfl ?_
      simp only [Act.put, List.setIfInBounds_toArray, List.set_cons_zero, List.set_cons_succ]
      refine p_move (v := .int .i64 (c' : Int)) rfl rfl ?_
      simp only [Act.put, List.setIfInBounds_toArray, List.set_cons_zero, List.set_cons_succ]
      refine p_call (args := #[.pointer (some ⟨g, 0, none⟩), .int .i64 (b : Int), .int .i64 (c' : Int)]) (v := .int .i64 (jbc : Int)) own16 rfl rfl (lw_join hL hp4 hb hc e5) ?_
      intro wp5 hp5
      simp only [Act.put, List.setIfInBounds_toArray, List.set_cons_zero, List.set_cons_succ]
      refine p_call (args := #[.pointer (some ⟨g, 0, none⟩), .int .i64 (a : Int), .int .i64 (jbc : Int)]) (v := .int .i64 (xx : Int)) own16 rfl rfl (lw_join hL hp5 ha l2 f1) ?_
      intro wp6 hp6
      simp only [Act.put, List.setIfInBounds_toArray, List.set_cons_zero, List.set_cons_succ]
      refine p_move (v := .pointer (some ⟨g, 0, none⟩)) rfl rfl ?_
      simp only [Act.put, List.setIfInBounds_toArray, List.set_cons_zero, List.set_cons_succ]
      refine p_move (v := .pointer (some ⟨g, 0, none⟩)) rfl rfl ?_
      simp only [Act.put, List.setIfInBounds_toArray, List.set_cons_zero, List.set_cons_succ]
      refine p_move (v := .int .i64 (a : Int)) rfl rfl ?_
      simp only [Act.put, List.setIfInBounds_toArray, List.set_cons_zero, List.set_cons_succ]
      refine p_move (v := .int .i64 (b : Int)) rfl rfl ?_
      simp only [Act.put, List.setIfInBounds_toArray, List.set_cons_zero, List.set_cons_succ]
      refine p_call (args := #[.pointer (some ⟨g, 0, none⟩), .int .i64 (a : Int), .int .i64 (b : Int)]) (v := .int .i64 (jab : Int)) own16 rfl rfl (lw_join hL hp6 ha hb e1) ?_
      intro wp7 hp7
      simp only [Act.put, List.setIfInBounds_toArray, List.set_cons_zero, List.set_cons_succ]
      refine p_move (v := .int .i64 (c' : Int)) rfl rfl ?_
      simp only [Act.put, List.setIfInBounds_toArray, List.set_cons_zero, List.set_cons_succ]
      refine p_call (args := #[.pointer (some ⟨g, 0, none⟩), .int .i64 (jab : Int), .int .i64 (c' : Int)]) (v := .int .i64 (xx : Int)) own16 rfl rfl (lw_join hL hp7 l1 hc f2) ?_
      intro wp8 hp8
      simp only [Act.put, List.setIfInBounds_toArray, List.set_cons_zero, List.set_cons_succ]
      refine p_eqlI (b := true) rfl rfl rfl (by simp) ?_
      simp only [Act.put, List.setIfInBounds_toArray, List.set_cons_zero, List.set_cons_succ]
      refine p_pickT (v := .bool true) rfl rfl rfl ?_
      simp only [Act.put, List.setIfInBounds_toArray, List.set_cons_zero, List.set_cons_succ]
      refine p_move (v := .bool true) rfl rfl ?_
      simp only [Act.put, List.setIfInBounds_toArray, List.set_cons_zero, List.set_cons_succ]
      refine p_move (v := .pointer (some ⟨g, 0, none⟩)) rfl rfl ?_
      simp only [Act.put, List.setIfInBounds_toArray, List.set_cons_zero, List.set_cons_succ]
      refine p_move (v := .int .i64 (a : Int)) rfl rfl ?_
      simp only [Act.put, List.setIfInBounds_toArray, List.set_cons_zero, List.set_cons_succ]
      refine p_move (v := .pointer (some ⟨g, 0, none⟩)) rfl rfl ?_
      simp only [Act.put, List.setIfInBounds_toArray, List.set_cons_zero, List.set_cons_succ]
      refine p_move (v := .int .i64 (b : Int)) rfl rfl ?_
      simp only [Act.put, List.setIfInBounds_toArray, List.set_cons_zero, List.set_cons_succ]
      refine p_move (v := .int .i64 (c' : Int)) rfl rfl ?_
      simp only [Act.put, List.setIfInBounds_toArray, List.set_cons_zero, List.set_cons_succ]
      refine p_call (args := #[.pointer (some ⟨g, 0, none⟩), .int .i64 (b : Int), .int .i64 (c' : Int)]) (v := .int .i64 (mbc : Int)) own18 rfl rfl (lw_meet hL hp8 hb hc e6) ?_
      intro wp9 hp9
      simp only [Act.put, List.setIfInBounds_toArray, List.set_cons_zero, List.set_cons_succ]
      refine p_call (args := #[.pointer (some ⟨g, 0, none⟩), .int .i64 (a : Int), .int .i64 (mbc : Int)]) (v := .int .i64 (yy : Int)) own18 rfl rfl (lw_meet hL hp9 ha l4 f3) ?_
      intro wp10 hp10
      simp only [Act.put, List.setIfInBounds_toArray, List.set_cons_zero, List.set_cons_succ]
      refine p_move (v := .pointer (some ⟨g, 0, none⟩)) rfl rfl ?_
      simp only [Act.put, List.setIfInBounds_toArray, List.set_cons_zero, List.set_cons_succ]
      refine p_move (v := .pointer (some ⟨g, 0, none⟩)) rfl rfl ?_
      simp only [Act.put, List.setIfInBounds_toArray, List.set_cons_zero, List.set_cons_succ]
      refine p_move (v := .int .i64 (a : Int)) rfl rfl ?_
      simp only [Act.put, List.setIfInBounds_toArray, List.set_cons_zero, List.set_cons_succ]
      refine p_move (v := .int .i64 (b : Int)) rfl rfl ?_
      simp only [Act.put, List.setIfInBounds_toArray, List.set_cons_zero, List.set_cons_succ]
      refine p_call (args := #[.pointer (some ⟨g, 0, none⟩), .int .i64 (a : Int), .int .i64 (b : Int)]) (v := .int .i64 (mab : Int)) own18 rfl rfl (lw_meet hL hp10 ha hb e3) ?_
      intro wp11 hp11
      simp only [Act.put, List.setIfInBounds_toArray, List.set_cons_zero, List.set_cons_succ]
      refine p_move (v := .int .i64 (c' : Int)) rfl rfl ?_
      simp only [Act.put, List.setIfInBounds_toArray, List.set_cons_zero, List.set_cons_succ]
      refine p_call (args := #[.pointer (some ⟨g, 0, none⟩), .int .i64 (mab : Int), .int .i64 (c' : Int)]) (v := .int .i64 (yy : Int)) own18 rfl rfl (lw_meet hL hp11 l3 hc f4) ?_
      intro wp12 hp12
      simp only [Act.put, List.setIfInBounds_toArray, List.set_cons_zero, List.set_cons_succ]
      refine p_eqlI (b := true) rfl rfl rfl (by simp) ?_
      simp only [Act.put, List.setIfInBounds_toArray, List.set_cons_zero, List.set_cons_succ]
      refine p_pickT (v := .bool true) rfl rfl rfl ?_
      simp only [Act.put, List.setIfInBounds_toArray, List.set_cons_zero, List.set_cons_succ]
      refine p_assign (v := .bool true) rfl rfl ?_
      simp only [Act.put, List.setIfInBounds_toArray, List.set_cons_zero, List.set_cons_succ]
      refine wpList_nil ?_
      go_upto_region 12 with fail
      cases hp : (u a).testBit b with
      | false =>
        rw [hp] at g1 g2
        refine p_region ?_
        refine p_move (v := .pointer (some ⟨g, 0, none⟩)) rfl rfl ?_
        simp only [Act.put, List.setIfInBounds_toArray, List.set_cons_zero, List.set_cons_succ]
        refine p_move (v := .int .i64 (a : Int)) rfl rfl ?_
        simp only [Act.put, List.setIfInBounds_toArray, List.set_cons_zero, List.set_cons_succ]
        refine p_move (v := .pointer (some ⟨g, 0, none⟩)) rfl rfl ?_
        simp only [Act.put, List.setIfInBounds_toArray, List.set_cons_zero, List.set_cons_succ]
        refine p_move (v := .int .i64 (a : Int)) rfl rfl ?_
        simp only [Act.put, List.setIfInBounds_toArray, List.set_cons_zero, List.set_cons_succ]
        refine p_move (v := .int .i64 (b : Int)) rfl rfl ?_
        simp only [Act.put, List.setIfInBounds_toArray, List.set_cons_zero, List.set_cons_succ]
        refine p_call (args := #[.pointer (some ⟨g, 0, none⟩), .int .i64 (a : Int), .int .i64 (b : Int)]) (v := .int .i64 (mab : Int)) own18 rfl rfl (lw_meet hL hp12 ha hb e3) ?_
        intro wq1 hq1
        simp only [Act.put, List.setIfInBounds_toArray, List.set_cons_zero, List.set_cons_succ]
        refine p_call (args := #[.pointer (some ⟨g, 0, none⟩), .int .i64 (a : Int), .int .i64 (mab : Int)]) (v := .int .i64 (a : Int)) own16 rfl rfl (lw_join hL hq1 ha l3 f5) ?_
        intro wq2 hq2
        simp only [Act.put, List.setIfInBounds_toArray, List.set_cons_zero, List.set_cons_succ]
        refine p_move (v := .int .i64 (a : Int)) rfl rfl ?_
        simp only [Act.put, List.setIfInBounds_toArray, List.set_cons_zero, List.set_cons_succ]
        refine p_eqlI (b := true) rfl rfl rfl (by simp) ?_
        simp only [Act.put, List.setIfInBounds_toArray, List.set_cons_zero, List.set_cons_succ]
        refine p_move (v := .bool true) rfl rfl ?_
        simp only [Act.put, List.setIfInBounds_toArray, List.set_cons_zero, List.set_cons_succ]
        refine p_move (v := .pointer (some ⟨g, 0, none⟩)) rfl rfl ?_
        simp only [Act.put, List.setIfInBounds_toArray, List.set_cons_zero, List.set_cons_succ]
        refine p_move (v := .int .i64 (a : Int)) rfl rfl ?_
        simp only [Act.put, List.setIfInBounds_toArray, List.set_cons_zero, List.set_cons_succ]
        refine p_move (v := .pointer (some ⟨g, 0, none⟩)) rfl rfl ?_
        simp only [Act.put, List.setIfInBounds_toArray, List.set_cons_zero, List.set_cons_succ]
        refine p_move (v := .int .i64 (a : Int)) rfl rfl ?_
        simp only [Act.put, List.setIfInBounds_toArray, List.set_cons_zero, List.set_cons_succ]
        refine p_move (v := .int .i64 (b : Int)) rfl rfl ?_
        simp only [Act.put, List.setIfInBounds_toArray, List.set_cons_zero, List.set_cons_succ]
        refine p_call (args := #[.pointer (some ⟨g, 0, none⟩), .int .i64 (a : Int), .int .i64 (b : Int)]) (v := .int .i64 (jab : Int)) own16 rfl rfl (lw_join hL hq2 ha hb e1) ?_
        intro wq3 hq3
        simp only [Act.put, List.setIfInBounds_toArray, List.set_cons_zero, List.set_cons_succ]
        refine p_call (args := #[.pointer (some ⟨g, 0, none⟩), .int .i64 (a : Int), .int .i64 (jab : Int)]) (v := .int .i64 (a : Int)) own18 rfl rfl (lw_meet hL hq3 ha l1 f6) ?_
        intro wq4 hq4
        simp only [Act.put, List.setIfInBounds_toArray, List.set_cons_zero, List.set_cons_succ]
        refine p_move (v := .int .i64 (a : Int)) rfl rfl ?_
        simp only [Act.put, List.setIfInBounds_toArray, List.set_cons_zero, List.set_cons_succ]
        refine p_eqlI (b := true) rfl rfl rfl (by simp) ?_
        simp only [Act.put, List.setIfInBounds_toArray, List.set_cons_zero, List.set_cons_succ]
        refine p_pickT (v := .bool true) rfl rfl rfl ?_
        simp only [Act.put, List.setIfInBounds_toArray, List.set_cons_zero, List.set_cons_succ]
        refine p_move (v := .bool true) rfl rfl ?_
        simp only [Act.put, List.setIfInBounds_toArray, List.set_cons_zero, List.set_cons_succ]
        refine p_move (v := .pointer (some ⟨g, 0, none⟩)) rfl rfl ?_
        simp only [Act.put, List.setIfInBounds_toArray, List.set_cons_zero, List.set_cons_succ]
        refine p_move (v := .int .i64 (a : Int)) rfl rfl ?_
        simp only [Act.put, List.setIfInBounds_toArray, List.set_cons_zero, List.set_cons_succ]
        refine p_move (v := .int .i64 (a : Int)) rfl rfl ?_
        simp only [Act.put, List.setIfInBounds_toArray, List.set_cons_zero, List.set_cons_succ]
        refine p_call (args := #[.pointer (some ⟨g, 0, none⟩), .int .i64 (a : Int), .int .i64 (a : Int)]) (v := .bool true) own14 rfl rfl (lw_below hL hq4 ha ha k5) ?_
        intro wq5 hq5
        simp only [Act.put, List.setIfInBounds_toArray, List.set_cons_zero, List.set_cons_succ]
        refine p_pickT (v := .bool true) rfl rfl rfl ?_
        simp only [Act.put, List.setIfInBounds_toArray, List.set_cons_zero, List.set_cons_succ]
        refine p_move (v := .bool true) rfl rfl ?_
        simp only [Act.put, List.setIfInBounds_toArray, List.set_cons_zero, List.set_cons_succ]
        refine p_move (v := .pointer (some ⟨g, 0, none⟩)) rfl rfl ?_
        simp only [Act.put, List.setIfInBounds_toArray, List.set_cons_zero, List.set_cons_succ]
        refine p_move (v := .int .i64 (a : Int)) rfl rfl ?_
        simp only [Act.put, List.setIfInBounds_toArray, List.set_cons_zero, List.set_cons_succ]
        refine p_move (v := .int .i64 (b : Int)) rfl rfl ?_
        simp only [Act.put, List.setIfInBounds_toArray, List.set_cons_zero, List.set_cons_succ]
        refine p_call (args := #[.pointer (some ⟨g, 0, none⟩), .int .i64 (a : Int), .int .i64 (b : Int)]) (v := .bool false) own14 rfl rfl (lw_below hL hq5 ha hb hp) ?_
        intro wq6 hq6
        simp only [Act.put, List.setIfInBounds_toArray, List.set_cons_zero, List.set_cons_succ]
        refine p_not (b := true) rfl rfl rfl ?_
        simp only [Act.put, List.setIfInBounds_toArray, List.set_cons_zero, List.set_cons_succ]
        refine p_move (v := .bool true) rfl rfl ?_
        simp only [Act.put, List.setIfInBounds_toArray, List.set_cons_zero, List.set_cons_succ]
        refine p_skip rfl ?_
        simp only [Act.put, List.setIfInBounds_toArray, List.set_cons_zero, List.set_cons_succ]
        refine p_skip rfl ?_
        simp only [Act.put, List.setIfInBounds_toArray, List.set_cons_zero, List.set_cons_succ]
        refine p_skip rfl ?_
        simp only [Act.put, List.setIfInBounds_toArray, List.set_cons_zero, List.set_cons_succ]
        refine p_skip rfl ?_
        simp only [Act.put, List.setIfInBounds_toArray, List.set_cons_zero, List.set_cons_succ]
        refine p_skip rfl ?_
        simp only [Act.put, List.setIfInBounds_toArray, List.set_cons_zero, List.set_cons_succ]
        refine p_pickT (v := .bool true) rfl rfl rfl ?_
        simp only [Act.put, List.setIfInBounds_toArray, List.set_cons_zero, List.set_cons_succ]
        refine p_move (v := .bool true) rfl rfl ?_
        simp only [Act.put, List.setIfInBounds_toArray, List.set_cons_zero, List.set_cons_succ]
        refine p_skip rfl ?_
        simp only [Act.put, List.setIfInBounds_toArray, List.set_cons_zero, List.set_cons_succ]
        refine p_skip rfl ?_
        simp only [Act.put, List.setIfInBounds_toArray, List.set_cons_zero, List.set_cons_succ]
        refine p_skip rfl ?_
        simp only [Act.put, List.setIfInBounds_toArray, List.set_cons_zero, List.set_cons_succ]
        refine p_skip rfl ?_
        simp only [Act.put, List.setIfInBounds_toArray, List.set_cons_zero, List.set_cons_succ]
        refine p_pickT (v := .bool true) rfl rfl rfl ?_
        simp only [Act.put, List.setIfInBounds_toArray, List.set_cons_zero, List.set_cons_succ]
        refine p_pickT (v := .bool true) rfl rfl rfl ?_
        simp only [Act.put, List.setIfInBounds_toArray, List.set_cons_zero, List.set_cons_succ]
        refine p_assign (v := .bool true) rfl rfl ?_
        simp only [Act.put, List.setIfInBounds_toArray, List.set_cons_zero, List.set_cons_succ]
        refine wpList_nil ?_
        go_upto_region 13 with fail
        refine p_region ?_
        refine p_move (v := .bool true) rfl rfl ?_
        simp only [Act.put, List.setIfInBounds_toArray, List.set_cons_zero, List.set_cons_succ]
        refine p_move (v := .bool true) rfl rfl ?_
        simp only [Act.put, List.setIfInBounds_toArray, List.set_cons_zero, List.set_cons_succ]
        refine p_move (v := .bool true) rfl rfl ?_
        simp only [Act.put, List.setIfInBounds_toArray, List.set_cons_zero, List.set_cons_succ]
        refine p_pickT (v := .bool true) rfl rfl rfl ?_
        simp only [Act.put, List.setIfInBounds_toArray, List.set_cons_zero, List.set_cons_succ]
        refine p_move (v := .bool true) rfl rfl ?_
        simp only [Act.put, List.setIfInBounds_toArray, List.set_cons_zero, List.set_cons_succ]
        refine p_move (v := .pointer (some ⟨g, 0, none⟩)) rfl rfl ?_
        simp only [Act.put, List.setIfInBounds_toArray, List.set_cons_zero, List.set_cons_succ]
        refine p_move (v := .int .i64 (a : Int)) rfl rfl ?_
        simp only [Act.put, List.setIfInBounds_toArray, List.set_cons_zero, List.set_cons_succ]
        refine p_move (v := .int .i64 (b : Int)) rfl rfl ?_
        simp only [Act.put, List.setIfInBounds_toArray, List.set_cons_zero, List.set_cons_succ]
        refine p_call (args := #[.pointer (some ⟨g, 0, none⟩), .int .i64 (a : Int), .int .i64 (b : Int)]) (v := .bool false) own14 rfl rfl (lw_below hL hq6 ha hb hp) ?_
        intro wr1 hr1
        simp only [Act.put, List.setIfInBounds_toArray, List.set_cons_zero, List.set_cons_succ]
        refine p_move (v := .pointer (some ⟨g, 0, none⟩)) rfl rfl ?_
        simp only [Act.put, List.setIfInBounds_toArray, List.set_cons_zero, List.set_cons_succ]
        refine p_move (v := .int .i64 (a : Int)) rfl rfl ?_
        simp only [Act.put, List.setIfInBounds_toArray, List.set_cons_zero, List.set_cons_succ]
        refine p_move (v := .int .i64 (b : Int)) rfl rfl ?_
        simp only [Act.put, List.setIfInBounds_toArray, List.set_cons_zero, List.set_cons_succ]
        refine p_call (args := #[.pointer (some ⟨g, 0, none⟩), .int .i64 (a : Int), .int .i64 (b : Int)]) (v := .int .i64 (jab : Int)) own16 rfl rfl (lw_join hL hr1 ha hb e1) ?_
        intro wr2 hr2
        simp only [Act.put, List.setIfInBounds_toArray, List.set_cons_zero, List.set_cons_succ]
        refine p_move (v := .int .i64 (b : Int)) rfl rfl ?_
        simp only [Act.put, List.setIfInBounds_toArray, List.set_cons_zero, List.set_cons_succ]
        refine p_eqlI (b := false) rfl rfl rfl g1 ?_
        simp only [Act.put, List.setIfInBounds_toArray, List.set_cons_zero, List.set_cons_succ]
        refine p_eqlB (b := true) rfl rfl rfl rfl ?_
        simp only [Act.put, List.setIfInBounds_toArray, List.set_cons_zero, List.set_cons_succ]
        refine p_pickT (v := .bool true) rfl rfl rfl ?_
        simp only [Act.put, List.setIfInBounds_toArray, List.set_cons_zero, List.set_cons_succ]
        refine p_move (v := .bool true) rfl rfl ?_
        simp only [Act.put, List.setIfInBounds_toArray, List.set_cons_zero, List.set_cons_succ]
        refine p_move (v := .pointer (some ⟨g, 0, none⟩)) rfl rfl ?_
        simp only [Act.put, List.setIfInBounds_toArray, List.set_cons_zero, List.set_cons_succ]
        refine p_move (v := .int .i64 (a : Int)) rfl rfl ?_
        simp only [Act.put, List.setIfInBounds_toArray, List.set_cons_zero, List.set_cons_succ]
        refine p_move (v := .int .i64 (b : Int)) rfl rfl ?_
        simp only [Act.put, List.setIfInBounds_toArray, List.set_cons_zero, List.set_cons_succ]
        refine p_call (args := #[.pointer (some ⟨g, 0, none⟩), .int .i64 (a : Int), .int .i64 (b : Int)]) (v := .bool false) own14 rfl rfl (lw_below hL hr2 ha hb hp) ?_
        intro wr3 hr3
        simp only [Act.put, List.setIfInBounds_toArray, List.set_cons_zero, List.set_cons_succ]
        refine p_move (v := .pointer (some ⟨g, 0, none⟩)) rfl rfl ?_
        simp only [Act.put, List.setIfInBounds_toArray, List.set_cons_zero, List.set_cons_succ]
        refine p_move (v := .int .i64 (a : Int)) rfl rfl ?_
        simp only [Act.put, List.setIfInBounds_toArray, List.set_cons_zero, List.set_cons_succ]
        refine p_move (v := .int .i64 (b : Int)) rfl rfl ?_
        simp only [Act.put, List.setIfInBounds_toArray, List.set_cons_zero, List.set_cons_succ]
        refine p_call (args := #[.pointer (some ⟨g, 0, none⟩), .int .i64 (a : Int), .int .i64 (b : Int)]) (v := .int .i64 (mab : Int)) own18 rfl rfl (lw_meet hL hr3 ha hb e3) ?_
        intro wr4 hr4
        simp only [Act.put, List.setIfInBounds_toArray, List.set_cons_zero, List.set_cons_succ]
        refine p_move (v := .int .i64 (a : Int)) rfl rfl ?_
        simp only [Act.put, List.setIfInBounds_toArray, List.set_cons_zero, List.set_cons_succ]
        refine p_eqlI (b := false) rfl rfl rfl g2 ?_
        simp only [Act.put, List.setIfInBounds_toArray, List.set_cons_zero, List.set_cons_succ]
        refine p_eqlB (b := true) rfl rfl rfl rfl ?_
        simp only [Act.put, List.setIfInBounds_toArray, List.set_cons_zero, List.set_cons_succ]
        refine p_pickT (v := .bool true) rfl rfl rfl ?_
        simp only [Act.put, List.setIfInBounds_toArray, List.set_cons_zero, List.set_cons_succ]
        refine p_move (v := .bool true) rfl rfl ?_
        simp only [Act.put, List.setIfInBounds_toArray, List.set_cons_zero, List.set_cons_succ]
        refine p_move (v := .pointer (some ⟨g, 0, none⟩)) rfl rfl ?_
        simp only [Act.put, List.setIfInBounds_toArray, List.set_cons_zero, List.set_cons_succ]
        refine p_move (v := .pointer (some ⟨g, 0, none⟩)) rfl rfl ?_
        simp only [Act.put, List.setIfInBounds_toArray, List.set_cons_zero, List.set_cons_succ]
        refine p_call (args := #[.pointer (some ⟨g, 0, none⟩)]) (v := .int .i64 (bo : Int)) own25 rfl rfl (lw_bottom hL hr4 k1) ?_
        intro wr5 hr5
        simp only [Act.put, List.setIfInBounds_toArray, List.set_cons_zero, List.set_cons_succ]
        refine p_move (v := .int .i64 (a : Int)) rfl rfl ?_
        simp only [Act.put, List.setIfInBounds_toArray, List.set_cons_zero, List.set_cons_succ]
        refine p_call (args := #[.pointer (some ⟨g, 0, none⟩), .int .i64 (bo : Int), .int .i64 (a : Int)]) (v := .bool true) own14 rfl rfl (lw_below hL hr5 l5 ha k3) ?_
        intro wr6 hr6
        simp only [Act.put, List.setIfInBounds_toArray, List.set_cons_zero, List.set_cons_succ]
        refine p_pickT (v := .bool true) rfl rfl rfl ?_
        simp only [Act.put, List.setIfInBounds_toArray, List.set_cons_zero, List.set_cons_succ]
        refine p_move (v := .bool true) rfl rfl ?_
        simp only [Act.put, List.setIfInBounds_toArray, List.set_cons_zero, List.set_cons_succ]
        refine p_move (v := .pointer (some ⟨g, 0, none⟩)) rfl rfl ?_
        simp only [Act.put, List.setIfInBounds_toArray, List.set_cons_zero, List.set_cons_succ]
        refine p_move (v := .int .i64 (a : Int)) rfl rfl ?_
        simp only [Act.put, List.setIfInBounds_toArray, List.set_cons_zero, List.set_cons_succ]
        refine p_move (v := .pointer (some ⟨g, 0, none⟩)) rfl rfl ?_
        simp only [Act.put, List.setIfInBounds_toArray, List.set_cons_zero, List.set_cons_succ]
        refine p_call (args := #[.pointer (some ⟨g, 0, none⟩)]) (v := .int .i64 (tp : Int)) own27 rfl rfl (lw_top hL hr6 k2) ?_
        intro wr7 hr7
        simp only [Act.put, List.setIfInBounds_toArray, List.set_cons_zero, List.set_cons_succ]
        refine p_call (args := #[.pointer (some ⟨g, 0, none⟩), .int .i64 (a : Int), .int .i64 (tp : Int)]) (v := .bool true) own14 rfl rfl (lw_below hL hr7 ha l6 k4) ?_
        intro wr8 hr8
        simp only [Act.put, List.setIfInBounds_toArray, List.set_cons_zero, List.set_cons_succ]
        refine p_pickT (v := .bool true) rfl rfl rfl ?_
        simp only [Act.put, List.setIfInBounds_toArray, List.set_cons_zero, List.set_cons_succ]
        refine p_assign (v := .bool true) rfl rfl ?_
        simp only [Act.put, List.setIfInBounds_toArray, List.set_cons_zero, List.set_cons_succ]
        refine wpList_nil ?_
        have hBf := hr8.2.1
        go_wp2
        go_ret
        exact ⟨rfl, hBf⟩
      | true =>
        rw [hp] at g1 g2
        cases hq : (u b).testBit c' with
        | false =>
          refine p_region ?_
          refine p_move (v := .pointer (some ⟨g, 0, none⟩)) rfl rfl ?_
          simp only [Act.put, List.setIfInBounds_toArray, List.set_cons_zero, List.set_cons_succ]
          refine p_move (v := .int .i64 (a : Int)) rfl rfl ?_
          simp only [Act.put, List.setIfInBounds_toArray, List.set_cons_zero, List.set_cons_succ]
          refine p_move (v := .pointer (some ⟨g, 0, none⟩)) rfl rfl ?_
          simp only [Act.put, List.setIfInBounds_toArray, List.set_cons_zero, List.set_cons_succ]
          refine p_move (v := .int .i64 (a : Int)) rfl rfl ?_
          simp only [Act.put, List.setIfInBounds_toArray, List.set_cons_zero, List.set_cons_succ]
          refine p_move (v := .int .i64 (b : Int)) rfl rfl ?_
          simp only [Act.put, List.setIfInBounds_toArray, List.set_cons_zero, List.set_cons_succ]
          refine p_call (args := #[.pointer (some ⟨g, 0, none⟩), .int .i64 (a : Int), .int .i64 (b : Int)]) (v := .int .i64 (mab : Int)) own18 rfl rfl (lw_meet hL hp12 ha hb e3) ?_
          intro wq1 hq1
          simp only [Act.put, List.setIfInBounds_toArray, List.set_cons_zero, List.set_cons_succ]
          refine p_call (args := #[.pointer (some ⟨g, 0, none⟩), .int .i64 (a : Int), .int .i64 (mab : Int)]) (v := .int .i64 (a : Int)) own16 rfl rfl (lw_join hL hq1 ha l3 f5) ?_
          intro wq2 hq2
          simp only [Act.put, List.setIfInBounds_toArray, List.set_cons_zero, List.set_cons_succ]
          refine p_move (v := .int .i64 (a : Int)) rfl rfl ?_
          simp only [Act.put, List.setIfInBounds_toArray, List.set_cons_zero, List.set_cons_succ]
          refine p_eqlI (b := true) rfl rfl rfl (by simp) ?_
          simp only [Act.put, List.setIfInBounds_toArray, List.set_cons_zero, List.set_cons_succ]
          refine p_move (v := .bool true) rfl rfl ?_
          simp only [Act.put, List.setIfInBounds_toArray, List.set_cons_zero, List.set_cons_succ]
          refine p_move (v := .pointer (some ⟨g, 0, none⟩)) rfl rfl ?_
          simp only [Act.put, List.setIfInBounds_toArray, List.set_cons_zero, List.set_cons_succ]
          refine p_move (v := .int .i64 (a : Int)) rfl rfl ?_
          simp only [Act.put, List.setIfInBounds_toArray, List.set_cons_zero, List.set_cons_succ]
          refine p_move (v := .pointer (some ⟨g, 0, none⟩)) rfl rfl ?_
          simp only [Act.put, List.setIfInBounds_toArray, List.set_cons_zero, List.set_cons_succ]
          refine p_move (v := .int .i64 (a : Int)) rfl rfl ?_
          simp only [Act.put, List.setIfInBounds_toArray, List.set_cons_zero, List.set_cons_succ]
          refine p_move (v := .int .i64 (b : Int)) rfl rfl ?_
          simp only [Act.put, List.setIfInBounds_toArray, List.set_cons_zero, List.set_cons_succ]
          refine p_call (args := #[.pointer (some ⟨g, 0, none⟩), .int .i64 (a : Int), .int .i64 (b : Int)]) (v := .int .i64 (jab : Int)) own16 rfl rfl (lw_join hL hq2 ha hb e1) ?_
          intro wq3 hq3
          simp only [Act.put, List.setIfInBounds_toArray, List.set_cons_zero, List.set_cons_succ]
          refine p_call (args := #[.pointer (some ⟨g, 0, none⟩), .int .i64 (a : Int), .int .i64 (jab : Int)]) (v := .int .i64 (a : Int)) own18 rfl rfl (lw_meet hL hq3 ha l1 f6) ?_
          intro wq4 hq4
          simp only [Act.put, List.setIfInBounds_toArray, List.set_cons_zero, List.set_cons_succ]
          refine p_move (v := .int .i64 (a : Int)) rfl rfl ?_
          simp only [Act.put, List.setIfInBounds_toArray, List.set_cons_zero, List.set_cons_succ]
          refine p_eqlI (b := true) rfl rfl rfl (by simp) ?_
          simp only [Act.put, List.setIfInBounds_toArray, List.set_cons_zero, List.set_cons_succ]
          refine p_pickT (v := .bool true) rfl rfl rfl ?_
          simp only [Act.put, List.setIfInBounds_toArray, List.set_cons_zero, List.set_cons_succ]
          refine p_move (v := .bool true) rfl rfl ?_
          simp only [Act.put, List.setIfInBounds_toArray, List.set_cons_zero, List.set_cons_succ]
          refine p_move (v := .pointer (some ⟨g, 0, none⟩)) rfl rfl ?_
          simp only [Act.put, List.setIfInBounds_toArray, List.set_cons_zero, List.set_cons_succ]
          refine p_move (v := .int .i64 (a : Int)) rfl rfl ?_
          simp only [Act.put, List.setIfInBounds_toArray, List.set_cons_zero, List.set_cons_succ]
          refine p_move (v := .int .i64 (a : Int)) rfl rfl ?_
          simp only [Act.put, List.setIfInBounds_toArray, List.set_cons_zero, List.set_cons_succ]
          refine p_call (args := #[.pointer (some ⟨g, 0, none⟩), .int .i64 (a : Int), .int .i64 (a : Int)]) (v := .bool true) own14 rfl rfl (lw_below hL hq4 ha ha k5) ?_
          intro wq5 hq5
          simp only [Act.put, List.setIfInBounds_toArray, List.set_cons_zero, List.set_cons_succ]
          refine p_pickT (v := .bool true) rfl rfl rfl ?_
          simp only [Act.put, List.setIfInBounds_toArray, List.set_cons_zero, List.set_cons_succ]
          refine p_move (v := .bool true) rfl rfl ?_
          simp only [Act.put, List.setIfInBounds_toArray, List.set_cons_zero, List.set_cons_succ]
          refine p_move (v := .pointer (some ⟨g, 0, none⟩)) rfl rfl ?_
          simp only [Act.put, List.setIfInBounds_toArray, List.set_cons_zero, List.set_cons_succ]
          refine p_move (v := .int .i64 (a : Int)) rfl rfl ?_
          simp only [Act.put, List.setIfInBounds_toArray, List.set_cons_zero, List.set_cons_succ]
          refine p_move (v := .int .i64 (b : Int)) rfl rfl ?_
          simp only [Act.put, List.setIfInBounds_toArray, List.set_cons_zero, List.set_cons_succ]
          refine p_call (args := #[.pointer (some ⟨g, 0, none⟩), .int .i64 (a : Int), .int .i64 (b : Int)]) (v := .bool true) own14 rfl rfl (lw_below hL hq5 ha hb hp) ?_
          intro wq6 hq6
          simp only [Act.put, List.setIfInBounds_toArray, List.set_cons_zero, List.set_cons_succ]
          refine p_not (b := false) rfl rfl rfl ?_
          simp only [Act.put, List.setIfInBounds_toArray, List.set_cons_zero, List.set_cons_succ]
          refine p_move (v := .bool false) rfl rfl ?_
          simp only [Act.put, List.setIfInBounds_toArray, List.set_cons_zero, List.set_cons_succ]
          refine p_move (v := .pointer (some ⟨g, 0, none⟩)) rfl rfl ?_
          simp only [Act.put, List.setIfInBounds_toArray, List.set_cons_zero, List.set_cons_succ]
          refine p_move (v := .int .i64 (b : Int)) rfl rfl ?_
          simp only [Act.put, List.setIfInBounds_toArray, List.set_cons_zero, List.set_cons_succ]
          refine p_move (v := .int .i64 (c' : Int)) rfl rfl ?_
          simp only [Act.put, List.setIfInBounds_toArray, List.set_cons_zero, List.set_cons_succ]
          refine p_call (args := #[.pointer (some ⟨g, 0, none⟩), .int .i64 (b : Int), .int .i64 (c' : Int)]) (v := .bool false) own14 rfl rfl (lw_below hL hq6 hb hc hq) ?_
          intro wq7 hq7
          simp only [Act.put, List.setIfInBounds_toArray, List.set_cons_zero, List.set_cons_succ]
          refine p_not (b := true) rfl rfl rfl ?_
          simp only [Act.put, List.setIfInBounds_toArray, List.set_cons_zero, List.set_cons_succ]
          refine p_pickF (v := .bool true) rfl rfl rfl ?_
          simp only [Act.put, List.setIfInBounds_toArray, List.set_cons_zero, List.set_cons_succ]
          refine p_move (v := .bool true) rfl rfl ?_
          simp only [Act.put, List.setIfInBounds_toArray, List.set_cons_zero, List.set_cons_succ]
          refine p_skip rfl ?_
          simp only [Act.put, List.setIfInBounds_toArray, List.set_cons_zero, List.set_cons_succ]
          refine p_skip rfl ?_
          simp only [Act.put, List.setIfInBounds_toArray, List.set_cons_zero, List.set_cons_succ]
          refine p_skip rfl ?_
          simp only [Act.put, List.setIfInBounds_toArray, List.set_cons_zero, List.set_cons_succ]
          refine p_skip rfl ?_
          simp only [Act.put, List.setIfInBounds_toArray, List.set_cons_zero, List.set_cons_succ]
          refine p_pickT (v := .bool true) rfl rfl rfl ?_
          simp only [Act.put, List.setIfInBounds_toArray, List.set_cons_zero, List.set_cons_succ]
          refine p_pickT (v := .bool true) rfl rfl rfl ?_
          simp only [Act.put, List.setIfInBounds_toArray, List.set_cons_zero, List.set_cons_succ]
          refine p_assign (v := .bool true) rfl rfl ?_
          simp only [Act.put, List.setIfInBounds_toArray, List.set_cons_zero, List.set_cons_succ]
          refine wpList_nil ?_
          go_upto_region 13 with fail
          refine p_region ?_
          refine p_move (v := .bool true) rfl rfl ?_
          simp only [Act.put, List.setIfInBounds_toArray, List.set_cons_zero, List.set_cons_succ]
          refine p_move (v := .bool true) rfl rfl ?_
          simp only [Act.put, List.setIfInBounds_toArray, List.set_cons_zero, List.set_cons_succ]
          refine p_move (v := .bool true) rfl rfl ?_
          simp only [Act.put, List.setIfInBounds_toArray, List.set_cons_zero, List.set_cons_succ]
          refine p_pickT (v := .bool true) rfl rfl rfl ?_
          simp only [Act.put, List.setIfInBounds_toArray, List.set_cons_zero, List.set_cons_succ]
          refine p_move (v := .bool true) rfl rfl ?_
          simp only [Act.put, List.setIfInBounds_toArray, List.set_cons_zero, List.set_cons_succ]
          refine p_move (v := .pointer (some ⟨g, 0, none⟩)) rfl rfl ?_
          simp only [Act.put, List.setIfInBounds_toArray, List.set_cons_zero, List.set_cons_succ]
          refine p_move (v := .int .i64 (a : Int)) rfl rfl ?_
          simp only [Act.put, List.setIfInBounds_toArray, List.set_cons_zero, List.set_cons_succ]
          refine p_move (v := .int .i64 (b : Int)) rfl rfl ?_
          simp only [Act.put, List.setIfInBounds_toArray, List.set_cons_zero, List.set_cons_succ]
          refine p_call (args := #[.pointer (some ⟨g, 0, none⟩), .int .i64 (a : Int), .int .i64 (b : Int)]) (v := .bool true) own14 rfl rfl (lw_below hL hq7 ha hb hp) ?_
          intro wr1 hr1
          simp only [Act.put, List.setIfInBounds_toArray, List.set_cons_zero, List.set_cons_succ]
          refine p_move (v := .pointer (some ⟨g, 0, none⟩)) rfl rfl ?_
          simp only [Act.put, List.setIfInBounds_toArray, List.set_cons_zero, List.set_cons_succ]
          refine p_move (v := .int .i64 (a : Int)) rfl rfl ?_
          simp only [Act.put, List.setIfInBounds_toArray, List.set_cons_zero, List.set_cons_succ]
          refine p_move (v := .int .i64 (b : Int)) rfl rfl ?_
          simp only [Act.put, List.setIfInBounds_toArray, List.set_cons_zero, List.set_cons_succ]
          refine p_call (args := #[.pointer (some ⟨g, 0, none⟩), .int .i64 (a : Int), .int .i64 (b : Int)]) (v := .int .i64 (jab : Int)) own16 rfl rfl (lw_join hL hr1 ha hb e1) ?_
          intro wr2 hr2
          simp only [Act.put, List.setIfInBounds_toArray, List.set_cons_zero, List.set_cons_succ]
          refine p_move (v := .int .i64 (b : Int)) rfl rfl ?_
          simp only [Act.put, List.setIfInBounds_toArray, List.set_cons_zero, List.set_cons_succ]
          refine p_eqlI (b := true) rfl rfl rfl g1 ?_
          simp only [Act.put, List.setIfInBounds_toArray, List.set_cons_zero, List.set_cons_succ]
          refine p_eqlB (b := true) rfl rfl rfl rfl ?_
          simp only [Act.put, List.setIfInBounds_toArray, List.set_cons_zero, List.set_cons_succ]
          refine p_pickT (v := .bool true) rfl rfl rfl ?_
          simp only [Act.put, List.setIfInBounds_toArray, List.set_cons_zero, List.set_cons_succ]
          refine p_move (v := .bool true) rfl rfl ?_
          simp only [Act.put, List.setIfInBounds_toArray, List.set_cons_zero, List.set_cons_succ]
          refine p_move (v := .pointer (some ⟨g, 0, none⟩)) rfl rfl ?_
          simp only [Act.put, List.setIfInBounds_toArray, List.set_cons_zero, List.set_cons_succ]
          refine p_move (v := .int .i64 (a : Int)) rfl rfl ?_
          simp only [Act.put, List.setIfInBounds_toArray, List.set_cons_zero, List.set_cons_succ]
          refine p_move (v := .int .i64 (b : Int)) rfl rfl ?_
          simp only [Act.put, List.setIfInBounds_toArray, List.set_cons_zero, List.set_cons_succ]
          refine p_call (args := #[.pointer (some ⟨g, 0, none⟩), .int .i64 (a : Int), .int .i64 (b : Int)]) (v := .bool true) own14 rfl rfl (lw_below hL hr2 ha hb hp) ?_
          intro wr3 hr3
          simp only [Act.put, List.setIfInBounds_toArray, List.set_cons_zero, List.set_cons_succ]
          refine p_move (v := .pointer (some ⟨g, 0, none⟩)) rfl rfl ?_
          simp only [Act.put, List.setIfInBounds_toArray, List.set_cons_zero, List.set_cons_succ]
          refine p_move (v := .int .i64 (a : Int)) rfl rfl ?_
          simp only [Act.put, List.setIfInBounds_toArray, List.set_cons_zero, List.set_cons_succ]
          refine p_move (v := .int .i64 (b : Int)) rfl rfl ?_
          simp only [Act.put, List.setIfInBounds_toArray, List.set_cons_zero, List.set_cons_succ]
          refine p_call (args := #[.pointer (some ⟨g, 0, none⟩), .int .i64 (a : Int), .int .i64 (b : Int)]) (v := .int .i64 (mab : Int)) own18 rfl rfl (lw_meet hL hr3 ha hb e3) ?_
          intro wr4 hr4
          simp only [Act.put, List.setIfInBounds_toArray, List.set_cons_zero, List.set_cons_succ]
          refine p_move (v := .int .i64 (a : Int)) rfl rfl ?_
          simp only [Act.put, List.setIfInBounds_toArray, List.set_cons_zero, List.set_cons_succ]
          refine p_eqlI (b := true) rfl rfl rfl g2 ?_
          simp only [Act.put, List.setIfInBounds_toArray, List.set_cons_zero, List.set_cons_succ]
          refine p_eqlB (b := true) rfl rfl rfl rfl ?_
          simp only [Act.put, List.setIfInBounds_toArray, List.set_cons_zero, List.set_cons_succ]
          refine p_pickT (v := .bool true) rfl rfl rfl ?_
          simp only [Act.put, List.setIfInBounds_toArray, List.set_cons_zero, List.set_cons_succ]
          refine p_move (v := .bool true) rfl rfl ?_
          simp only [Act.put, List.setIfInBounds_toArray, List.set_cons_zero, List.set_cons_succ]
          refine p_move (v := .pointer (some ⟨g, 0, none⟩)) rfl rfl ?_
          simp only [Act.put, List.setIfInBounds_toArray, List.set_cons_zero, List.set_cons_succ]
          refine p_move (v := .pointer (some ⟨g, 0, none⟩)) rfl rfl ?_
          simp only [Act.put, List.setIfInBounds_toArray, List.set_cons_zero, List.set_cons_succ]
          refine p_call (args := #[.pointer (some ⟨g, 0, none⟩)]) (v := .int .i64 (bo : Int)) own25 rfl rfl (lw_bottom hL hr4 k1) ?_
          intro wr5 hr5
          simp only [Act.put, List.setIfInBounds_toArray, List.set_cons_zero, List.set_cons_succ]
          refine p_move (v := .int .i64 (a : Int)) rfl rfl ?_
          simp only [Act.put, List.setIfInBounds_toArray, List.set_cons_zero, List.set_cons_succ]
          refine p_call (args := #[.pointer (some ⟨g, 0, none⟩), .int .i64 (bo : Int), .int .i64 (a : Int)]) (v := .bool true) own14 rfl rfl (lw_below hL hr5 l5 ha k3) ?_
          intro wr6 hr6
          simp only [Act.put, List.setIfInBounds_toArray, List.set_cons_zero, List.set_cons_succ]
          refine p_pickT (v := .bool true) rfl rfl rfl ?_
          simp only [Act.put, List.setIfInBounds_toArray, List.set_cons_zero, List.set_cons_succ]
          refine p_move (v := .bool true) rfl rfl ?_
          simp only [Act.put, List.setIfInBounds_toArray, List.set_cons_zero, List.set_cons_succ]
          refine p_move (v := .pointer (some ⟨g, 0, none⟩)) rfl rfl ?_
          simp only [Act.put, List.setIfInBounds_toArray, List.set_cons_zero, List.set_cons_succ]
          refine p_move (v := .int .i64 (a : Int)) rfl rfl ?_
          simp only [Act.put, List.setIfInBounds_toArray, List.set_cons_zero, List.set_cons_succ]
          refine p_move (v := .pointer (some ⟨g, 0, none⟩)) rfl rfl ?_
          simp only [Act.put, List.setIfInBounds_toArray, List.set_cons_zero, List.set_cons_succ]
          refine p_call (args := #[.pointer (some ⟨g, 0, none⟩)]) (v := .int .i64 (tp : Int)) own27 rfl rfl (lw_top hL hr6 k2) ?_
          intro wr7 hr7
          simp only [Act.put, List.setIfInBounds_toArray, List.set_cons_zero, List.set_cons_succ]
          refine p_call (args := #[.pointer (some ⟨g, 0, none⟩), .int .i64 (a : Int), .int .i64 (tp : Int)]) (v := .bool true) own14 rfl rfl (lw_below hL hr7 ha l6 k4) ?_
          intro wr8 hr8
          simp only [Act.put, List.setIfInBounds_toArray, List.set_cons_zero, List.set_cons_succ]
          refine p_pickT (v := .bool true) rfl rfl rfl ?_
          simp only [Act.put, List.setIfInBounds_toArray, List.set_cons_zero, List.set_cons_succ]
          refine p_assign (v := .bool true) rfl rfl ?_
          simp only [Act.put, List.setIfInBounds_toArray, List.set_cons_zero, List.set_cons_succ]
          refine wpList_nil ?_
          have hBf := hr8.2.1
          go_wp2
          go_ret
          exact ⟨rfl, hBf⟩
        | true =>
          have hr := hL.trans a b c' ha hb hc hp hq
          refine p_region ?_
          refine p_move (v := .pointer (some ⟨g, 0, none⟩)) rfl rfl ?_
          simp only [Act.put, List.setIfInBounds_toArray, List.set_cons_zero, List.set_cons_succ]
          refine p_move (v := .int .i64 (a : Int)) rfl rfl ?_
          simp only [Act.put, List.setIfInBounds_toArray, List.set_cons_zero, List.set_cons_succ]
          refine p_move (v := .pointer (some ⟨g, 0, none⟩)) rfl rfl ?_
          simp only [Act.put, List.setIfInBounds_toArray, List.set_cons_zero, List.set_cons_succ]
          refine p_move (v := .int .i64 (a : Int)) rfl rfl ?_
          simp only [Act.put, List.setIfInBounds_toArray, List.set_cons_zero, List.set_cons_succ]
          refine p_move (v := .int .i64 (b : Int)) rfl rfl ?_
          simp only [Act.put, List.setIfInBounds_toArray, List.set_cons_zero, List.set_cons_succ]
          refine p_call (args := #[.pointer (some ⟨g, 0, none⟩), .int .i64 (a : Int), .int .i64 (b : Int)]) (v := .int .i64 (mab : Int)) own18 rfl rfl (lw_meet hL hp12 ha hb e3) ?_
          intro wq1 hq1
          simp only [Act.put, List.setIfInBounds_toArray, List.set_cons_zero, List.set_cons_succ]
          refine p_call (args := #[.pointer (some ⟨g, 0, none⟩), .int .i64 (a : Int), .int .i64 (mab : Int)]) (v := .int .i64 (a : Int)) own16 rfl rfl (lw_join hL hq1 ha l3 f5) ?_
          intro wq2 hq2
          simp only [Act.put, List.setIfInBounds_toArray, List.set_cons_zero, List.set_cons_succ]
          refine p_move (v := .int .i64 (a : Int)) rfl rfl ?_
          simp only [Act.put, List.setIfInBounds_toArray, List.set_cons_zero, List.set_cons_succ]
          refine p_eqlI (b := true) rfl rfl rfl (by simp) ?_
          simp only [Act.put, List.setIfInBounds_toArray, List.set_cons_zero, List.set_cons_succ]
          refine p_move (v := .bool true) rfl rfl ?_
          simp only [Act.put, List.setIfInBounds_toArray, List.set_cons_zero, List.set_cons_succ]
          refine p_move (v := .pointer (some ⟨g, 0, none⟩)) rfl rfl ?_
          simp only [Act.put, List.setIfInBounds_toArray, List.set_cons_zero, List.set_cons_succ]
          refine p_move (v := .int .i64 (a : Int)) rfl rfl ?_
          simp only [Act.put, List.setIfInBounds_toArray, List.set_cons_zero, List.set_cons_succ]
          refine p_move (v := .pointer (some ⟨g, 0, none⟩)) rfl rfl ?_
          simp only [Act.put, List.setIfInBounds_toArray, List.set_cons_zero, List.set_cons_succ]
          refine p_move (v := .int .i64 (a : Int)) rfl rfl ?_
          simp only [Act.put, List.setIfInBounds_toArray, List.set_cons_zero, List.set_cons_succ]
          refine p_move (v := .int .i64 (b : Int)) rfl rfl ?_
          simp only [Act.put, List.setIfInBounds_toArray, List.set_cons_zero, List.set_cons_succ]
          refine p_call (args := #[.pointer (some ⟨g, 0, none⟩), .int .i64 (a : Int), .int .i64 (b : Int)]) (v := .int .i64 (jab : Int)) own16 rfl rfl (lw_join hL hq2 ha hb e1) ?_
          intro wq3 hq3
          simp only [Act.put, List.setIfInBounds_toArray, List.set_cons_zero, List.set_cons_succ]
          refine p_call (args := #[.pointer (some ⟨g, 0, none⟩), .int .i64 (a : Int), .int .i64 (jab : Int)]) (v := .int .i64 (a : Int)) own18 rfl rfl (lw_meet hL hq3 ha l1 f6) ?_
          intro wq4 hq4
          simp only [Act.put, List.setIfInBounds_toArray, List.set_cons_zero, List.set_cons_succ]
          refine p_move (v := .int .i64 (a : Int)) rfl rfl ?_
          simp only [Act.put, List.setIfInBounds_toArray, List.set_cons_zero, List.set_cons_succ]
          refine p_eqlI (b := true) rfl rfl rfl (by simp) ?_
          simp only [Act.put, List.setIfInBounds_toArray, List.set_cons_zero, List.set_cons_succ]
          refine p_pickT (v := .bool true) rfl rfl rfl ?_
          simp only [Act.put, List.setIfInBounds_toArray, List.set_cons_zero, List.set_cons_succ]
          refine p_move (v := .bool true) rfl rfl ?_
          simp only [Act.put, List.setIfInBounds_toArray, List.set_cons_zero, List.set_cons_succ]
          refine p_move (v := .pointer (some ⟨g, 0, none⟩)) rfl rfl ?_
          simp only [Act.put, List.setIfInBounds_toArray, List.set_cons_zero, List.set_cons_succ]
          refine p_move (v := .int .i64 (a : Int)) rfl rfl ?_
          simp only [Act.put, List.setIfInBounds_toArray, List.set_cons_zero, List.set_cons_succ]
          refine p_move (v := .int .i64 (a : Int)) rfl rfl ?_
          simp only [Act.put, List.setIfInBounds_toArray, List.set_cons_zero, List.set_cons_succ]
          refine p_call (args := #[.pointer (some ⟨g, 0, none⟩), .int .i64 (a : Int), .int .i64 (a : Int)]) (v := .bool true) own14 rfl rfl (lw_below hL hq4 ha ha k5) ?_
          intro wq5 hq5
          simp only [Act.put, List.setIfInBounds_toArray, List.set_cons_zero, List.set_cons_succ]
          refine p_pickT (v := .bool true) rfl rfl rfl ?_
          simp only [Act.put, List.setIfInBounds_toArray, List.set_cons_zero, List.set_cons_succ]
          refine p_move (v := .bool true) rfl rfl ?_
          simp only [Act.put, List.setIfInBounds_toArray, List.set_cons_zero, List.set_cons_succ]
          refine p_move (v := .pointer (some ⟨g, 0, none⟩)) rfl rfl ?_
          simp only [Act.put, List.setIfInBounds_toArray, List.set_cons_zero, List.set_cons_succ]
          refine p_move (v := .int .i64 (a : Int)) rfl rfl ?_
          simp only [Act.put, List.setIfInBounds_toArray, List.set_cons_zero, List.set_cons_succ]
          refine p_move (v := .int .i64 (b : Int)) rfl rfl ?_
          simp only [Act.put, List.setIfInBounds_toArray, List.set_cons_zero, List.set_cons_succ]
          refine p_call (args := #[.pointer (some ⟨g, 0, none⟩), .int .i64 (a : Int), .int .i64 (b : Int)]) (v := .bool true) own14 rfl rfl (lw_below hL hq5 ha hb hp) ?_
          intro wq6 hq6
          simp only [Act.put, List.setIfInBounds_toArray, List.set_cons_zero, List.set_cons_succ]
          refine p_not (b := false) rfl rfl rfl ?_
          simp only [Act.put, List.setIfInBounds_toArray, List.set_cons_zero, List.set_cons_succ]
          refine p_move (v := .bool false) rfl rfl ?_
          simp only [Act.put, List.setIfInBounds_toArray, List.set_cons_zero, List.set_cons_succ]
          refine p_move (v := .pointer (some ⟨g, 0, none⟩)) rfl rfl ?_
          simp only [Act.put, List.setIfInBounds_toArray, List.set_cons_zero, List.set_cons_succ]
          refine p_move (v := .int .i64 (b : Int)) rfl rfl ?_
          simp only [Act.put, List.setIfInBounds_toArray, List.set_cons_zero, List.set_cons_succ]
          refine p_move (v := .int .i64 (c' : Int)) rfl rfl ?_
          simp only [Act.put, List.setIfInBounds_toArray, List.set_cons_zero, List.set_cons_succ]
          refine p_call (args := #[.pointer (some ⟨g, 0, none⟩), .int .i64 (b : Int), .int .i64 (c' : Int)]) (v := .bool true) own14 rfl rfl (lw_below hL hq6 hb hc hq) ?_
          intro wq7 hq7
          simp only [Act.put, List.setIfInBounds_toArray, List.set_cons_zero, List.set_cons_succ]
          refine p_not (b := false) rfl rfl rfl ?_
          simp only [Act.put, List.setIfInBounds_toArray, List.set_cons_zero, List.set_cons_succ]
          refine p_pickF (v := .bool false) rfl rfl rfl ?_
          simp only [Act.put, List.setIfInBounds_toArray, List.set_cons_zero, List.set_cons_succ]
          refine p_move (v := .bool false) rfl rfl ?_
          simp only [Act.put, List.setIfInBounds_toArray, List.set_cons_zero, List.set_cons_succ]
          refine p_move (v := .pointer (some ⟨g, 0, none⟩)) rfl rfl ?_
          simp only [Act.put, List.setIfInBounds_toArray, List.set_cons_zero, List.set_cons_succ]
          refine p_move (v := .int .i64 (a : Int)) rfl rfl ?_
          simp only [Act.put, List.setIfInBounds_toArray, List.set_cons_zero, List.set_cons_succ]
          refine p_move (v := .int .i64 (c' : Int)) rfl rfl ?_
          simp only [Act.put, List.setIfInBounds_toArray, List.set_cons_zero, List.set_cons_succ]
          refine p_call (args := #[.pointer (some ⟨g, 0, none⟩), .int .i64 (a : Int), .int .i64 (c' : Int)]) (v := .bool true) own14 rfl rfl (lw_below hL hq7 ha hc hr) ?_
          intro wq8 hq8
          simp only [Act.put, List.setIfInBounds_toArray, List.set_cons_zero, List.set_cons_succ]
          refine p_pickF (v := .bool true) rfl rfl rfl ?_
          simp only [Act.put, List.setIfInBounds_toArray, List.set_cons_zero, List.set_cons_succ]
          refine p_pickT (v := .bool true) rfl rfl rfl ?_
          simp only [Act.put, List.setIfInBounds_toArray, List.set_cons_zero, List.set_cons_succ]
          refine p_assign (v := .bool true) rfl rfl ?_
          simp only [Act.put, List.setIfInBounds_toArray, List.set_cons_zero, List.set_cons_succ]
          refine wpList_nil ?_
          go_upto_region 13 with fail
          refine p_region ?_
          refine p_move (v := .bool true) rfl rfl ?_
          simp only [Act.put, List.setIfInBounds_toArray, List.set_cons_zero, List.set_cons_succ]
          refine p_move (v := .bool true) rfl rfl ?_
          simp only [Act.put, List.setIfInBounds_toArray, List.set_cons_zero, List.set_cons_succ]
          refine p_move (v := .bool true) rfl rfl ?_
          simp only [Act.put, List.setIfInBounds_toArray, List.set_cons_zero, List.set_cons_succ]
          refine p_pickT (v := .bool true) rfl rfl rfl ?_
          simp only [Act.put, List.setIfInBounds_toArray, List.set_cons_zero, List.set_cons_succ]
          refine p_move (v := .bool true) rfl rfl ?_
          simp only [Act.put, List.setIfInBounds_toArray, List.set_cons_zero, List.set_cons_succ]
          refine p_move (v := .pointer (some ⟨g, 0, none⟩)) rfl rfl ?_
          simp only [Act.put, List.setIfInBounds_toArray, List.set_cons_zero, List.set_cons_succ]
          refine p_move (v := .int .i64 (a : Int)) rfl rfl ?_
          simp only [Act.put, List.setIfInBounds_toArray, List.set_cons_zero, List.set_cons_succ]
          refine p_move (v := .int .i64 (b : Int)) rfl rfl ?_
          simp only [Act.put, List.setIfInBounds_toArray, List.set_cons_zero, List.set_cons_succ]
          refine p_call (args := #[.pointer (some ⟨g, 0, none⟩), .int .i64 (a : Int), .int .i64 (b : Int)]) (v := .bool true) own14 rfl rfl (lw_below hL hq8 ha hb hp) ?_
          intro wr1 hr1
          simp only [Act.put, List.setIfInBounds_toArray, List.set_cons_zero, List.set_cons_succ]
          refine p_move (v := .pointer (some ⟨g, 0, none⟩)) rfl rfl ?_
          simp only [Act.put, List.setIfInBounds_toArray, List.set_cons_zero, List.set_cons_succ]
          refine p_move (v := .int .i64 (a : Int)) rfl rfl ?_
          simp only [Act.put, List.setIfInBounds_toArray, List.set_cons_zero, List.set_cons_succ]
          refine p_move (v := .int .i64 (b : Int)) rfl rfl ?_
          simp only [Act.put, List.setIfInBounds_toArray, List.set_cons_zero, List.set_cons_succ]
          refine p_call (args := #[.pointer (some ⟨g, 0, none⟩), .int .i64 (a : Int), .int .i64 (b : Int)]) (v := .int .i64 (jab : Int)) own16 rfl rfl (lw_join hL hr1 ha hb e1) ?_
          intro wr2 hr2
          simp only [Act.put, List.setIfInBounds_toArray, List.set_cons_zero, List.set_cons_succ]
          refine p_move (v := .int .i64 (b : Int)) rfl rfl ?_
          simp only [Act.put, List.setIfInBounds_toArray, List.set_cons_zero, List.set_cons_succ]
          refine p_eqlI (b := true) rfl rfl rfl g1 ?_
          simp only [Act.put, List.setIfInBounds_toArray, List.set_cons_zero, List.set_cons_succ]
          refine p_eqlB (b := true) rfl rfl rfl rfl ?_
          simp only [Act.put, List.setIfInBounds_toArray, List.set_cons_zero, List.set_cons_succ]
          refine p_pickT (v := .bool true) rfl rfl rfl ?_
          simp only [Act.put, List.setIfInBounds_toArray, List.set_cons_zero, List.set_cons_succ]
          refine p_move (v := .bool true) rfl rfl ?_
          simp only [Act.put, List.setIfInBounds_toArray, List.set_cons_zero, List.set_cons_succ]
          refine p_move (v := .pointer (some ⟨g, 0, none⟩)) rfl rfl ?_
          simp only [Act.put, List.setIfInBounds_toArray, List.set_cons_zero, List.set_cons_succ]
          refine p_move (v := .int .i64 (a : Int)) rfl rfl ?_
          simp only [Act.put, List.setIfInBounds_toArray, List.set_cons_zero, List.set_cons_succ]
          refine p_move (v := .int .i64 (b : Int)) rfl rfl ?_
          simp only [Act.put, List.setIfInBounds_toArray, List.set_cons_zero, List.set_cons_succ]
          refine p_call (args := #[.pointer (some ⟨g, 0, none⟩), .int .i64 (a : Int), .int .i64 (b : Int)]) (v := .bool true) own14 rfl rfl (lw_below hL hr2 ha hb hp) ?_
          intro wr3 hr3
          simp only [Act.put, List.setIfInBounds_toArray, List.set_cons_zero, List.set_cons_succ]
          refine p_move (v := .pointer (some ⟨g, 0, none⟩)) rfl rfl ?_
          simp only [Act.put, List.setIfInBounds_toArray, List.set_cons_zero, List.set_cons_succ]
          refine p_move (v := .int .i64 (a : Int)) rfl rfl ?_
          simp only [Act.put, List.setIfInBounds_toArray, List.set_cons_zero, List.set_cons_succ]
          refine p_move (v := .int .i64 (b : Int)) rfl rfl ?_
          simp only [Act.put, List.setIfInBounds_toArray, List.set_cons_zero, List.set_cons_succ]
          refine p_call (args := #[.pointer (some ⟨g, 0, none⟩), .int .i64 (a : Int), .int .i64 (b : Int)]) (v := .int .i64 (mab : Int)) own18 rfl rfl (lw_meet hL hr3 ha hb e3) ?_
          intro wr4 hr4
          simp only [Act.put, List.setIfInBounds_toArray, List.set_cons_zero, List.set_cons_succ]
          refine p_move (v := .int .i64 (a : Int)) rfl rfl ?_
          simp only [Act.put, List.setIfInBounds_toArray, List.set_cons_zero, List.set_cons_succ]
          refine p_eqlI (b := true) rfl rfl rfl g2 ?_
          simp only [Act.put, List.setIfInBounds_toArray, List.set_cons_zero, List.set_cons_succ]
          refine p_eqlB (b := true) rfl rfl rfl rfl ?_
          simp only [Act.put, List.setIfInBounds_toArray, List.set_cons_zero, List.set_cons_succ]
          refine p_pickT (v := .bool true) rfl rfl rfl ?_
          simp only [Act.put, List.setIfInBounds_toArray, List.set_cons_zero, List.set_cons_succ]
          refine p_move (v := .bool true) rfl rfl ?_
          simp only [Act.put, List.setIfInBounds_toArray, List.set_cons_zero, List.set_cons_succ]
          refine p_move (v := .pointer (some ⟨g, 0, none⟩)) rfl rfl ?_
          simp only [Act.put, List.setIfInBounds_toArray, List.set_cons_zero, List.set_cons_succ]
          refine p_move (v := .pointer (some ⟨g, 0, none⟩)) rfl rfl ?_
          simp only [Act.put, List.setIfInBounds_toArray, List.set_cons_zero, List.set_cons_succ]
          refine p_call (args := #[.pointer (some ⟨g, 0, none⟩)]) (v := .int .i64 (bo : Int)) own25 rfl rfl (lw_bottom hL hr4 k1) ?_
          intro wr5 hr5
          simp only [Act.put, List.setIfInBounds_toArray, List.set_cons_zero, List.set_cons_succ]
          refine p_move (v := .int .i64 (a : Int)) rfl rfl ?_
          simp only [Act.put, List.setIfInBounds_toArray, List.set_cons_zero, List.set_cons_succ]
          refine p_call (args := #[.pointer (some ⟨g, 0, none⟩), .int .i64 (bo : Int), .int .i64 (a : Int)]) (v := .bool true) own14 rfl rfl (lw_below hL hr5 l5 ha k3) ?_
          intro wr6 hr6
          simp only [Act.put, List.setIfInBounds_toArray, List.set_cons_zero, List.set_cons_succ]
          refine p_pickT (v := .bool true) rfl rfl rfl ?_
          simp only [Act.put, List.setIfInBounds_toArray, List.set_cons_zero, List.set_cons_succ]
          refine p_move (v := .bool true) rfl rfl ?_
          simp only [Act.put, List.setIfInBounds_toArray, List.set_cons_zero, List.set_cons_succ]
          refine p_move (v := .pointer (some ⟨g, 0, none⟩)) rfl rfl ?_
          simp only [Act.put, List.setIfInBounds_toArray, List.set_cons_zero, List.set_cons_succ]
          refine p_move (v := .int .i64 (a : Int)) rfl rfl ?_
          simp only [Act.put, List.setIfInBounds_toArray, List.set_cons_zero, List.set_cons_succ]
          refine p_move (v := .pointer (some ⟨g, 0, none⟩)) rfl rfl ?_
          simp only [Act.put, List.setIfInBounds_toArray, List.set_cons_zero, List.set_cons_succ]
          refine p_call (args := #[.pointer (some ⟨g, 0, none⟩)]) (v := .int .i64 (tp : Int)) own27 rfl rfl (lw_top hL hr6 k2) ?_
          intro wr7 hr7
          simp only [Act.put, List.setIfInBounds_toArray, List.set_cons_zero, List.set_cons_succ]
          refine p_call (args := #[.pointer (some ⟨g, 0, none⟩), .int .i64 (a : Int), .int .i64 (tp : Int)]) (v := .bool true) own14 rfl rfl (lw_below hL hr7 ha l6 k4) ?_
          intro wr8 hr8
          simp only [Act.put, List.setIfInBounds_toArray, List.set_cons_zero, List.set_cons_succ]
          refine p_pickT (v := .bool true) rfl rfl rfl ?_
          simp only [Act.put, List.setIfInBounds_toArray, List.set_cons_zero, List.set_cons_succ]
          refine p_assign (v := .bool true) rfl rfl ?_
          simp only [Act.put, List.setIfInBounds_toArray, List.set_cons_zero, List.set_cons_succ]
          refine wpList_nil ?_
          have hBf := hr8.2.1
          go_wp2
          go_ret
          exact ⟨rfl, hBf⟩
end Go.Proofs.Ytefnbjkmmmdagaa
