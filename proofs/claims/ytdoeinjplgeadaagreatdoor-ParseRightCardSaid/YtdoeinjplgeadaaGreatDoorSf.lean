/- PROVED here: the walk of ParseRight. No condition but those in each theorem's own head. -/
import Derived.Test.YtdoeinjplgeadaaGreatDoorSe
import Derived.Test.YtdoeinjplgeadaaGreatDoorTrRa
import Derived.Test.YtdoeinjplgeadaaGreatDoorRd
import Derived.BigQuiet
namespace Go.Proofs.YtdoeinjplgeadaaGreatDoor
open Go Go.RowKit
open Tr (Bx heap1 bt gen_world ret_int ret_bool cell_same Nds)

def WNo (p er : Int) (w : World) (e : Ending) (w' : World) : Prop := e = .returned (.tuple #[.agg #[.slice none 0 0, .int .i64 0], .int .i64 p, .int .i64 er]) ∧ Below w.heap.size w w'
def WYes (nd : List Tr.Nd) (n : Nat) (w : World) (e : Ending) (w' : World) : Prop := ∃ A c, e = .returned (.tuple #[.agg #[.slice A n c, .int .i64 ((n : Int) - 1)], .int .i64 0, .int .i64 0]) ∧ Below w.heap.size w w' ∧ Nds w' A nd
theorem WNo.of {p e : Nat} {a : Ans} {w w' : World} {v : Ending} (ha : a = .bad p e) (h : TreePost a w v w') : WNo p e w v w' := by
  subst ha
  obtain ⟨A, n, c, r, m, p', er', rfl, hb, rfl, rfl, rfl, rfl, rfl, rfl, rfl⟩ := h
  exact ⟨rfl, hb⟩
theorem WYes.of {nd : List Nd} {k : Nat} {a : Ans} {w w' : World} {v : Ending} (ha : a = .good nd k) (h : TreePost a w v w') : WYes (nd.map cvN) nd.length w v w' := by
  subst ha
  obtain ⟨A, n, c, r, m, p', er', rfl, hb, rfl, rfl, rfl, rfl, rfl, hN⟩ := h
  exact ⟨A, c, rfl, hb, hN.nds⟩
/-- whether a token ahead of k is at the place -/
def Hit (ts : List Tok) (pl : Int) (k : Nat) : Prop := ∃ (j : Nat) (hj : j < ts.length), j < k ∧ (ts[j].p : Int) = pl
theorem Hit.mono {ts : List Tok} {pl : Int} {k m : Nat} (h : Hit ts pl k) (hm : k ≤ m) : Hit ts pl m := by
  obtain ⟨j, hj, h1, h2⟩ := h; exact ⟨j, hj, by omega, h2⟩
theorem hit_not {ts : List Tok} {pl : Int} {k : Nat} (hk : k < ts.length) (h : ¬ Hit ts pl k) (hp : (ts[k].p : Int) ≠ pl) : ¬ Hit ts pl (k + 1) := by
  rintro ⟨j, hj, h1, h2⟩
  by_cases e : j = k
  · subst e; exact hp h2
  · exact h ⟨j, hj, by omega, h2⟩
set_option maxRecDepth 100000 in
set_option maxHeartbeats 2500000 in
theorem parseRight_any (s : ByteArray) (w : World) (hE : Tk.Errs w) : Calls Tryz.prog 4 #[.string s] w (VPost (.bool true) w) := by
  have HS := Lib.hid (shown_any w hE)
  by_cases hs : s.size ≤ 1500
  case neg =>
    have hs2 : (1500 : Int) < (s.size : Int) := by omega
    clear hE hs
    go_enter Tryz.func4, Tryz.ntmps4
    go_wp2_with (go_at_call 8; refine HS.out.mono ?_; rintro e w1 ⟨rfl, hb1⟩)
    go_ret
    exact ⟨rfl, hb1⟩
  have hs2 : ¬ (1500 : Int) < (s.size : Int) := by omega
  cases ha : ansOf progR s.data.toList with
  | bad p er =>
    obtain ⟨h0, hp⟩ := prog_bad ha
    have hsz : s.data.toList.length = s.size := by simp
    have HP := Lib.hid (fun w' (q : Below w.heap.size w w') => (program_any s w' (hE.below q) (by omega)).mono fun _ _ r => WNo.of ha r)
    have d0 : ((er : Int) == 0) = false := by rw [beq_eq_false_iff_ne]; omega
    have d1 : decide ((0 : Int) ≤ (p : Int)) = true := decide_eq_true (by omega)
    have d3 : decide (p ≤ s.size) = true := decide_eq_true (by omega)
    have D3 := Lib.hid d3
    clear d3
    clear ha hE h0 hp hsz
    go_enter Tryz.func4, Tryz.ntmps4
    go_wp2_with (first | (go_at_call 8; refine HS.out.mono ?_; rintro e w1 ⟨rfl, hb1⟩) | (go_at_call 9; refine (HP.out _ hb1).mono ?_; rintro e w2 ⟨rfl, hb2⟩))
    go_ret
    exact ⟨ret_bool D3.out, bt (bt hb1 hb2) (heap1 _ _)⟩
  | good nd k =>
    cases hc : Tk.cutR s.data.toList 0 with
    | bad p => rw [ansOf_cut hc] at ha; cases ha
    | ok us =>
    have hR := prog_right hc ha
    have HP := Lib.hid (fun w' (q : Below w.heap.size w w') => (program_any s w' (hE.below q) (by omega)).mono fun _ _ r => WYes.of ha r)
    have HC := Lib.hid (fun w' (q : Below w.heap.size w w') => show Calls Tryz.prog 13 #[.string s] w' (WCut us w') from (Tk.cut_any s w' (hE.below q) (by omega)).mono fun _ _ r => by
      obtain ⟨r1, r2⟩ := r
      rw [hc] at r2
      obtain ⟨A, c, r3, r4, _⟩ := r2
      exact ⟨A, c, r3, r1, toks_cv r4⟩)
    have hl := ts_len hc
    have hsz : s.data.toList.length = s.size := by simp
    obtain ⟨n, hn⟩ : ∃ n, n = nd.length := ⟨_, rfl⟩
    obtain ⟨m, hm⟩ : ∃ m, m = us.length := ⟨_, rfl⟩
    have hm4 : m ≤ 4000 := by omega
    have hn4 : n ≤ 4000 := by rw [hn]; exact hR.few
    have hn1 : 1 ≤ n := by rw [hn]; exact hR.pos
    have HRt := Lib.hid (fun w' A c (q : Nds w' A (nd.map cvN)) => show Calls Tryz.prog 12 #[.agg #[.slice A n c, .int .i64 ((n : Int) - 1)]] w' (Tr.BPost true w') from (by
      have r := Tr.right_any A c n (nd.map cvN) ((n : Int) - 1) w' q (by rw [List.length_map]; exact hn) hR.kids hR.text hR.num
      rw [show Tr.rgB (nd.map cvN) ((n : Int) - 1) = true by rw [hn]; exact hR.right] at r
      exact r))
    have HAt := Lib.hid hR.at_
    have HN := Lib.hid hn
    have HM := Lib.hid hm
    rw [← hn] at HP
    unfold WCut at HC
    rw [← hm] at HC
    clear ha hc hE hl hsz hR hn hm
    go_enter Tryz.func4, Tryz.ntmps4
    go_wp2_with (first | (go_at_call 8; refine HS.out.mono ?_; rintro e w1 ⟨rfl, hb1⟩) | (go_at_call 9; refine (HP.out _ hb1).mono ?_))
    rintro e w2 ⟨A, c, rfl, hb2, hNd⟩
    have HB := Lib.hid (Bx.new w2 25 [.slice A n c, .int .i64 ((n : Int) - 1)])
    have HNd := Lib.hid (hNd.below (heap1 w2 (.cells #[.slice A n c, .int .i64 ((n : Int) - 1)] 25)))
    have HW := Lib.hid (bt (bt hb1 hb2) (heap1 w2 (.cells #[.slice A n c, .int .i64 ((n : Int) - 1)] 25)))
    clear hb1 hb2 hNd
    go_wp2_with (first | (go_at_call 12; refine (HRt.out _ _ _ HNd.out).mono ?_; rintro e w3 ⟨rfl, hb3⟩) | (go_at_call 13; refine (HC.out _ (bt HW.out hb3)).mono ?_))
    rintro e w4 ⟨A4, c4, rfl, hb4, hT⟩
    have HB4 := Lib.hid ((HB.out.below hb3 HB.out.lt).below hb4 (Nat.lt_of_lt_of_le HB.out.lt hb3.size))
    have HN4 := Lib.hid ((HNd.out.below hb3).below hb4)
    have HW4 := Lib.hid (bt (bt HW.out hb3) hb4)
    have HT4 := Lib.hid hT
    clear HB HNd HW hb3 hb4 hT
    obtain ⟨n', hn'⟩ : ∃ n', n = n' + 1 := ⟨n - 1, by omega⟩
    subst hn'
    have hml : (nd.map cvN).length = n' + 1 := by rw [List.length_map]; exact HN.out.symm
    obtain ⟨b, off, rfl, hbl, hcl⟩ := HN4.out (by omega)
    have HBL := Lib.hid hbl
    have HCL := Lib.hid hcl
    have HML := Lib.hid hml
    have hsub : ((n' + 1 : Nat) : Int) - 1 = (n' : Int) := by omega
    clear hcl hml hbl
    go_wp2
    go_loopg [10] n' (fun gi a10 wr => ∃ i : Nat, a10 = .int .i64 (i : Int) ∧ i ≤ n' ∧ gi = n' - i ∧ Below w4.heap.size w4 wr)
    case atStart => exact ⟨0, rfl, Nat.zero_le _, rfl, Below.refl _ _⟩
    case round =>
      obtain ⟨i, rfl, hi, rfl, hbw⟩ := hrel
      have HBW := Lib.hid hbw
      have e0 := ((HB4.out.below hbw HB4.out.lt).cell 0).trans rfl
      have e1 := ((HB4.out.below hbw HB4.out.lt).cell 1).trans rfl
      clear hbw
      by_cases hlt : i < n'
      · have hlz : (i : Int) < (n' : Int) := by omega
        have hin : i < nd.length := by have := HN.out; omega
        obtain ⟨pl, hpl⟩ : ∃ pl, pl = nd[i].pl := ⟨_, rfl⟩
        have HC2 := Lib.hid (show w4.cell? ⟨b, off + i * 5 + 2, none⟩ = some (.int .i64 pl) by
          obtain ⟨K, cK, _, _, c2, _⟩ := HCL.out i (by have := HML.out; omega)
          rw [c2, List.getElem_map, hpl]; rfl)
        have HH := Lib.hid (show Hit (us.map cvT) pl m by
          obtain ⟨t, ht, e⟩ := HAt.out i hin (by have := HN.out; omega)
          obtain ⟨j, hj, rfl⟩ := List.getElem_of_mem ht
          exact ⟨j, hj, by have := HM.out; rw [List.length_map] at hj; omega, by rw [e, hpl]⟩)
        have HI := Lib.hid (And.intro hi hlt)
        clear hpl hin hi hlt
        go_wp2
        clear e0 e1
        go_loopg [11, 12] m (fun gk a11 a12 wz => ∃ (k : Nat) (z : Bool), a11 = .bool z ∧ a12 = .int .i64 (k : Int) ∧ k ≤ m ∧ gk = m - k ∧ Below w4.heap.size w4 wz ∧ (z = true ↔ Hit (us.map cvT) pl k))
        case atStart => exact ⟨0, false, rfl, rfl, Nat.zero_le _, rfl, HBW.out, ⟨(fun q => by cases q), fun ⟨_, _, q, _⟩ => absurd q (Nat.not_lt_zero _)⟩⟩
        case round =>
          obtain ⟨k, z, rfl, rfl, hk, rfl, hbz, hz⟩ := hrel
          have HBZ := Lib.hid hbz
          have e0 := ((HB4.out.below hbz HB4.out.lt).cell 0).trans rfl
          have e1 := ((HB4.out.below hbz HB4.out.lt).cell 1).trans rfl
          have c2n := (hbz.cell (p := ⟨b, off + i * 5 + 2, none⟩) HBL.out).trans HC2.out
          clear hbz
          by_cases hkm : k < m
          · have hkz : (k : Int) < (m : Int) := by omega
            have hkl : k < (us.map cvT).length := by rw [List.length_map, ← HM.out]; exact hkm
            obtain ⟨bT, oT, rfl, hbT, hcT⟩ := HT4.out (by omega)
            have c2t := hcT k hkl 2 (by decide)
            obtain ⟨tp, htp⟩ : ∃ tp, tp = ((us.map cvT)[k].p : Int) := ⟨_, rfl⟩
            have c2k : wr.cell? ⟨bT, oT + k * 4 + 2, none⟩ = some (.int .i64 tp) := (HBZ.out.cell (p := ⟨bT, oT + k * 4 + 2, none⟩) hbT).trans (c2t.trans (by rw [htp]; rfl))
            have HZ := Lib.hid (And.intro hz (And.intro hk (And.intro hkl htp)))
            clear c2t hcT hz htp hk hbT
            cases z with
            | true =>
              go_wp2_with fail
              go_quiet (fail)
              go_wp2
              go_roundg (m - (k + 1))
              case measure => go_light; omega
              case rel =>
                go_light
                exact ⟨k + 1, true, rfl, by go_num, by omega, rfl, Tk.below_drewN HBZ.out _, ⟨fun _ => (HZ.out.1.1 (by first | exact True.intro | rfl)).mono (Nat.le_succ _), fun _ => rfl⟩⟩
            | false =>
              by_cases q : tp = pl
              · have dq : (tp == pl) = true := by rw [q]; simp
                have HQ := Lib.hid q
                clear q
                go_wp2_with fail
                go_quiet (fail)
                go_wp2
                go_roundg (m - (k + 1))
                case measure => go_light; omega
                case rel =>
                  go_light
                  exact ⟨k + 1, true, rfl, by go_num, by omega, rfl, Tk.below_drewN HBZ.out _, ⟨fun _ => ⟨k, HZ.out.2.2.1, Nat.lt_succ_self _, by rw [← HZ.out.2.2.2, HQ.out]⟩, fun _ => rfl⟩⟩
              · have dq : (tp == pl) = false := by rw [beq_eq_false_iff_ne]; exact q
                have HQ := Lib.hid q
                clear q
                go_wp2_with fail
                go_quiet (fail)
                go_wp2
                go_roundg (m - (k + 1))
                case measure => go_light; omega
                case rel =>
                  go_light
                  exact ⟨k + 1, false, rfl, by go_num, by omega, rfl, Tk.below_drewN HBZ.out _, ⟨(fun q => by cases q), fun q => absurd q (hit_not HZ.out.2.2.1 (fun r => by have := HZ.out.1.2 r; cases this) (by rw [← HZ.out.2.2.2]; exact HQ.out))⟩⟩
          · have hkz : ¬ (k : Int) < (m : Int) := by omega
            obtain rfl : k = m := by omega
            obtain rfl : z = true := hz.2 HH.out
            clear hk hkm hz
            go_wp2
            go_roundg (n' - (i + 1))
            case measure => go_light; have := HI.out; omega
            case rel =>
              go_light
              have := HI.out
              exact ⟨i + 1, by go_num, by omega, rfl, HBZ.out⟩
      · have hlz : ¬ (i : Int) < (n' : Int) := by omega
        clear hi hlt
        go_wp2
        go_ret
        exact ⟨rfl, bt HW4.out HBW.out⟩
end Go.Proofs.YtdoeinjplgeadaaGreatDoor
