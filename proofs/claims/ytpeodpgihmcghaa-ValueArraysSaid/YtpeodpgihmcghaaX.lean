/- PROVED here: the law ValueHeaps, walked. No condition but those in each theorem's own head. -/
import Derived.Test.YtpeodpgihmcghaaU
namespace Go.Proofs.Ytpeodpgihmcghaa
open Go Go.RowKit Go.Sort

/-- an act in memory -/
theorem Acts.at_ {w : World} {A : Option Addr} {l : List AV} (h : Acts w A l) {k : Nat} (hk : k < l.length) : ∃ b off, A = some ⟨b, off, none⟩ ∧ b < w.heap.size ∧ w.cell? ⟨b, off + k * 8, none⟩ = some (.int .i64 l[k].op) ∧ w.cell? ⟨b, off + k * 8 + 1, none⟩ = some (.int .i64 l[k].n) ∧ w.cell? ⟨b, off + k * 8 + 2, none⟩ = some (.int .i64 l[k].ak) ∧ w.cell? ⟨b, off + k * 8 + 3, none⟩ = some (.int .i64 l[k].an) ∧
    w.cell? ⟨b, off + k * 8 + 4, none⟩ = some (.int .i64 l[k].ik) ∧ w.cell? ⟨b, off + k * 8 + 5, none⟩ = some (.int .i64 l[k].iN) ∧ w.cell? ⟨b, off + k * 8 + 6, none⟩ = some (.int .i64 l[k].vk) ∧ w.cell? ⟨b, off + k * 8 + 7, none⟩ = some (.int .i64 l[k].vn) := by
  obtain ⟨b, off, e, hb, hc⟩ := h (by omega)
  exact ⟨b, off, e, hb, hc k hk 0 (by decide), hc k hk 1 (by decide), hc k hk 2 (by decide), hc k hk 3 (by decide), hc k hk 4 (by decide), hc k hk 5 (by decide), hc k hk 6 (by decide), hc k hk 7 (by decide)⟩
set_option maxRecDepth 100000 in
set_option maxHeartbeats 4000000 in
theorem valueHeaps_w (A : Option Addr) (c : Nat) (l : List AV) (w : World) (hA : Acts w A l) : Calls Try.prog 4 #[.slice A l.length c] w (VPost (.bool true) w) := by
  have HSH := Lib.hid (shown_any w)
  have HA := Lib.hid hA
  obtain ⟨n, hn⟩ : ∃ n, l.length = n := ⟨_, rfl⟩
  rw [hn]
  have HN := Lib.hid hn
  clear hA hn
  by_cases hl : 40 < (n : Int)
  · go_enter Try.func4, Try.ntmps4
    go_wp2_with (go_at_call 8; refine HSH.out.mono ?_)
    rintro e w1 ⟨rfl, hb1⟩
    have HB1 := Lib.hid hb1
    clear hb1
    go_wp2
    go_ret
    exact ⟨rfl, HB1.out⟩
  · go_enter Try.func4, Try.ntmps4
    go_wp2_with (go_at_call 8; refine HSH.out.mono ?_)
    rintro e w1 ⟨rfl, hb1⟩
    have hT : Two ((w1.alloc (.cells #[.slice none 0 0, .int .i64 0] 46)).alloc (.cells #[.slice none 0 0] 49)) w.heap.size w1.heap.size (.slice none 0 0) [] [] (w1.heap.size + 1) (.slice none 0 0) [] [] := by
      have h1 := (Hp.new46 w1 w.heap.size hb1.size).below (heap1 _ (.cells #[.slice none 0 0] 49))
      have h2 := Hp.new49 (w1.alloc (.cells #[.slice none 0 0, .int .i64 0] 46)) w.heap.size (by have := hb1.size; simp; omega)
      rw [World.size_alloc] at h2
      refine ⟨h1, h2, fun b hb q => ?_⟩
      rcases hb with rfl | hb | ⟨x, hx, _⟩
      · rcases q with q | q | ⟨x, hx, _⟩
        · omega
        · cases q
        · cases hx
      · cases hb
      · cases hx
    have hb2 : Below w.heap.size w ((w1.alloc (.cells #[.slice none 0 0, .int .i64 0] 46)).alloc (.cells #[.slice none 0 0] 49)) := (hb1.alloc hb1.size _).alloc (by have := hb1.size; simp; omega) _
    have HT := Lib.hid hT
    have HB := Lib.hid hb2
    clear hT hb2 hb1
    have hln : (n : Int) ≤ 40 := by omega
    go_wp2
    generalize w1.heap.size = g1 at *
    go_loopw [6] (fun i wr => ∃ (k : Nat) (v1 : Value) (vs1 : List Value) (v2 : Value) (vs2 : List Value) (L : List (List Int)), k ≤ n ∧ i = .int .i64 (k : Int) ∧ Two wr w.heap.size g1 v1 vs1 L (g1 + 1) v2 vs2 L ∧ Below w.heap.size w wr) (fun i _ => n - (intOf i).toNat)
    case atStart => exact ⟨0, _, _, _, _, _, Nat.zero_le _, rfl, HT.out, HB.out⟩
    case round =>
      obtain ⟨k, v1, vs1, v2, vs2, L, hk, rfl, hT, hb⟩ := hrel
      obtain ⟨W1, rfl⟩ : ∃ W1, W1 = wr := ⟨_, rfl⟩
      by_cases hlt : k < n
      · have hkz : (k : Int) < (n : Int) := by omega
        have hkl : k < l.length := by rw [HN.out]; exact hlt
        obtain ⟨b, off, rfl, hbl, x0, x1, x2, x3, x4, x5, x6, x7⟩ := (HA.out.below hb).at_ hkl
        obtain ⟨a, ha⟩ : ∃ a, l[k] = a := ⟨_, rfl⟩
        rw [ha] at x0 x1 x2 x3 x4 x5 x6 x7
        have HX := Lib.hid (And.intro x2 x3)
        have HD := Lib.hid (does_any hT a)
        have HB1 := Lib.hid (And.intro hT hb)
        have HK := Lib.hid hlt
        clear hT hb ha hk
        go_wp2_with (go_at_call 15; refine HD.out.mono ?_)
        rintro e w2 ⟨bo, v1', vs1', v2', vs2', rfl, hbo, hT2, hF⟩
        obtain rfl := hbo rfl
        clear hbo
        have hb2 : Below w.heap.size w w2 := HB1.out.2.trans (hF.to_below HB1.out.2.size (fun x hx => hx.elim (fun q => HB1.out.1.h1.foot q) (fun q => HB1.out.1.h2.foot q)))
        generalize actH L a = M at *
        have HT2 := Lib.hid hT2
        have HB2 := Lib.hid hb2
        have hA2 := (HA.out.below hb2).at_ hkl
        obtain ⟨b2, off2, e2, hbl2, -, -, y2, y3, -⟩ := hA2
        cases e2
        have hak : (l[k]).ak = a.ak := by
          have q1 := (hF.block b (by exact hbl) (fun q => by
            have := HA.out (by omega)
            obtain ⟨b9, off9, e9, hl9, _⟩ := this
            cases e9
            rcases q with q | q
            · have := HB1.out.1.h1.foot q; omega
            · have := HB1.out.1.h2.foot q; omega))
          have q2 := (World.cell?_of_block (a := ⟨b, off + k * 8 + 2, none⟩) q1).trans HX.out.1
          rw [y2] at q2
          injection q2 with q2
          injection q2
        have han : (l[k]).an = a.an := by
          have q1 := (hF.block b (by exact hbl) (fun q => by
            have := HA.out (by omega)
            obtain ⟨b9, off9, e9, hl9, _⟩ := this
            cases e9
            rcases q with q | q
            · have := HB1.out.1.h1.foot q; omega
            · have := HB1.out.1.h2.foot q; omega))
          have q2 := (World.cell?_of_block (a := ⟨b, off + k * 8 + 3, none⟩) q1).trans HX.out.2
          rw [y3] at q2
          injection q2 with q2
          injection q2
        rw [hak] at y2
        rw [han] at y3
        have s0 := cell_regrown y2
        have s1 := cell_regrown y3
        have cq16 : ∀ d os, Calls Try.prog 16 #[.pointer (some ⟨g1, 0, none⟩)] (grow (redrawn w2 d) os) fun e w'' => e = .returned (.int .i64 (cellsL M)) ∧ ∃ p : Regrown, w'' = grow (redrawn w2 p.d) p.os := fun d os => Calls.regrown_of ((cells_any (HT2.out.below (below_regrown w2 d os)).h1).mono fun e w' ⟨h1, h2⟩ => ⟨h1, by rw [← h2]; exact Below.refl _ _⟩)
        have cq17 : ∀ d os, Calls Try.prog 17 #[.pointer (some ⟨g1 + 1, 0, none⟩)] (grow (redrawn w2 d) os) fun e w'' => e = .returned (.int .i64 (cellsL M)) ∧ ∃ p : Regrown, w'' = grow (redrawn w2 p.d) p.os := fun d os => Calls.regrown_of ((rcells_any (HT2.out.below (below_regrown w2 d os)).h2).mono fun e w' ⟨h1, h2⟩ => ⟨h1, by rw [← h2]; exact Below.refl _ _⟩)
        have cq18 : ∀ d os, Calls Try.prog 18 #[.pointer (some ⟨g1, 0, none⟩), .agg #[.int .i64 a.ak, .int .i64 a.an]] (grow (redrawn w2 d) os) fun e w'' => e = .returned (.int .i64 (lenH M a.ak a.an)) ∧ ∃ p : Regrown, w'' = grow (redrawn w2 p.d) p.os := fun d os => Calls.regrown_of (len_any (HT2.out.below (below_regrown w2 d os)).h1 _ _)
        have cq19 : ∀ d os, Calls Try.prog 19 #[.pointer (some ⟨g1 + 1, 0, none⟩), .agg #[.int .i64 a.ak, .int .i64 a.an]] (grow (redrawn w2 d) os) fun e w'' => e = .returned (.int .i64 (lenH M a.ak a.an)) ∧ ∃ p : Regrown, w'' = grow (redrawn w2 p.d) p.os := fun d os => Calls.regrown_of (rlen_any (HT2.out.below (below_regrown w2 d os)).h2 _ _)
        have cq11 : ∀ d os, Calls Try.prog 11 #[.agg #[.int .i64 a.ak, .int .i64 a.an]] (grow (redrawn w2 d) os) fun e w'' => e = .returned (.agg #[.int .i64 a.ak, .int .i64 a.an]) ∧ ∃ p : Regrown, w'' = grow (redrawn w2 p.d) p.os := fun d os => Calls.regrown_of (as_any _ _ _)
        generalize cellsL M = z1 at *
        generalize lenH M a.ak a.an = z2 at *
        have k1 : (z1 != z1) = false := by simp
        have k2 : (z2 != z2) = false := by simp
        clear x0 x1 x2 x3 x4 x5 x6 x7 y2 y3 hak han hF hT2 hb2 hbl hbl2 hkl hlt
        go_upto_region 10 with (fail)
        refine wp_region_quiet_below (by kernel_rfl) (by kernel_rfl) ?_
        repeat (first | go_big_quiet_step (first | exact cq16 _ _ | exact cq17 _ _ | exact cq18 _ _ | exact cq19 _ _ | exact cq11 _ _))
        refine wpQuiet_nil ?_
        intro _ hw'
        obtain ⟨⟨dq, osq⟩, hw''⟩ := hw'
        subst hw''
        have hbq := below_regrown w2 dq osq
        generalize grow (redrawn w2 dq) osq = wz at *
        have HE := Lib.hid (And.intro (HT2.out.below hbq) (bt HB2.out hbq))
        clear hbq s0 s1 cq16 cq17 cq18 cq19 cq11 k1 k2
        go_wp2
        go_roundw
        case rel => exact ⟨k + 1, _, _, _, _, _, by have := HK.out; omega, by go_num, HE.out.1, HE.out.2⟩
        case measure => have := HK.out; simp [intOf]; omega
      · obtain rfl : k = n := by omega
        have hkz : ¬ (k : Int) < (k : Int) := by omega
        have HT1 := Lib.hid hT
        have HB1 := Lib.hid hb
        obtain ⟨A2, c2, rfl⟩ := hT.h2.slice
        clear hT hb
        go_upto_region 12 with (fail)
        have l0 : ∀ w', Below W1.heap.size W1 w' → w'.cell? ⟨g1 + 1, 0, none⟩ = some (.slice A2 L.length c2) := fun w' q => ((HT1.out.below q).h2.bx.cell 0).trans rfl
        have HARR := Lib.hid (fun W (q : Below W1.heap.size W1 W) => arrays_any (HT1.out.below q).h1)
        have HCPY := Lib.hid (fun W (q : Below W1.heap.size W1 W) => copy_any (HT1.out.below q).h1)
        have HRC := Lib.hid (fun W (q : Below W1.heap.size W1 W) => rcells_any (HT1.out.below q).h2)
        have HAR := Lib.hid (fun W (q : Below W1.heap.size W1 W) => (HT1.out.below q).h2.ar)
        have HCAP := Lib.hid HT1.out.h1.cap
        have hbw : Below W1.heap.size W1 W1.drew := (Below.refl _ _).drew
        have kz : (cellsL L == cellsL L) = true := by simp
        go_region_held3 (fun w' => Below W1.heap.size W1 w') (assumption)
          (first | (go_at_call_of 21 (Value.pointer (some ⟨g1, 0, none⟩)); refine (HARR.out _ (by assumption)).mono ?_; rintro e w1 ⟨A, c, ws, rfl, hA, hb1⟩; have hbw1 := bt (by assumption) hb1) | (go_at_call 21; refine (arrays_any (by assumption)).mono ?_; rintro e w1 ⟨A, c, ws, rfl, hA, hb1⟩; have hbw1 := bt (by assumption) hb1) | (go_at_call 20; refine (same_any (by assumption) (HAR.out _ (by assumption)) rfl HCAP.out).mono ?_; rintro e w1 ⟨rfl, hb1⟩; have hbw1 := bt (by assumption) hb1) | (go_at_call 22; refine (HCPY.out _ (by assumption)).mono ?_; rintro e w1 ⟨gc, vc, wc, rfl, hC, hb1⟩; have hbw1 := bt (by assumption) hb1) | (go_at_call 16; refine (cells_any (by assumption)).mono ?_; rintro e w1 ⟨rfl, rfl⟩) | (go_at_call 17; refine (HRC.out _ (by assumption)).mono ?_; rintro e w1 ⟨rfl, rfl⟩))
        have HE := Lib.hid (bt HB1.out hbw1)
        clear hbw hbw1 kz l0
        go_wp2
        go_ret
        exact ⟨rfl, HE.out⟩
end Go.Proofs.Ytpeodpgihmcghaa
