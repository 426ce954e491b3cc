/- PROVED here: the walk of ParsePlaces. No condition but those in each theorem's own head. -/
import Derived.Test.YtdoeinjplgeadaaGreatDoorRc
namespace Go.Proofs.YtdoeinjplgeadaaGreatDoor
open Go Go.RowKit
open Tr (Bx heap1 bt gen_world ret_int ret_bool cell_same)

def pOf (a : Ans) : Int := match a with
  | .bad p _ => (p : Int)
  | .good _ _ => 0
def eOf (a : Ans) : Int := match a with
  | .bad _ e => (e : Int)
  | .good _ _ => 0
/-- a value, old memory as it was, told from an earlier world -/
def WPost (v : Value) (w : World) (e : Ending) (w' : World) : Prop := e = .returned v ∧ Below w.heap.size w w'
def WTree (a : Ans) (w : World) (e : Ending) (w' : World) : Prop := ∃ A n c r, e = .returned (.tuple #[.agg #[.slice A n c, .int .i64 r], .int .i64 (pOf a), .int .i64 (eOf a)]) ∧ Below w.heap.size w w'
theorem WTree.of {a : Ans} {w w1 w' : World} {e : Ending} (hb : Below w.heap.size w w1) (h : TreePost a w1 e w') : WTree a w e w' := by
  obtain ⟨A, n, c, r, m, p, er, rfl, hb1, hA⟩ := h
  refine ⟨A, n, c, r, ?_, bt hb hb1⟩
  cases a with
  | bad p0 e0 => obtain ⟨_, _, _, _, _, rfl, rfl⟩ := hA; rfl
  | good nd k => obtain ⟨_, _, _, rfl, rfl, _⟩ := hA; rfl
/-- what is told of a place -/
def Tq (ts : List Tok) (a : Ans) : Prop := match a with
  | .good _ _ => True
  | .bad p e => (e = 8 ∧ p = 0) ∨ (e ≠ 0 ∧ e ≠ 8 ∧ ((∃ t ∈ ts, t.p = p) ∨ (e = 6 ∧ p = 0)))
theorem tq_of {R : List Tok → Rs} {l : List UInt8} {us : List Tk.Tok} (hc : Tk.cutR l 0 = .ok us) (hR : Okr (us.map cvT) False st0 0 0 (R (us.map cvT))) : Tq (us.map cvT) (ansOf R l) := by
  rcases hR.cases with ⟨v, s', q, _⟩ | ⟨p, e, q, q1, q2⟩
  · rw [ansOf_ok hc q]
    split
    · exact .inl ⟨rfl, rfl⟩
    split
    · exact .inr ⟨by decide, by decide, .inr ⟨rfl, rfl⟩⟩
    · exact True.intro
  · rw [ansOf_no hc q]
    exact .inr ⟨by omega, by omega, .inl q1⟩
theorem told_a {w : World} {A : Option Addr} {c : Nat} {ts : List Tok} {a : Ans} (hT : Toks w A ts) (hl : ts.length ≤ 100000) (h : Tq ts a) : Calls Tryz.prog 20 #[.slice A ts.length c, .int .i64 (pOf a), .int .i64 (eOf a)] w (VPost (.bool true) w) := by
  cases a with
  | good nd k => exact told_zero A ts.length c 0 (.inl rfl)
  | bad p e =>
    rcases h with ⟨rfl, rfl⟩ | ⟨h0, h8, h⟩
    · exact told_zero A ts.length c 8 (.inr rfl)
    · exact told_tok A c ts p (e : Int) hT hl (by omega) (by omega) (h.imp id (fun q => ⟨by rw [q.1]; rfl, q.2⟩))
/-- a program is no expression -/
theorem not_two {l : List UInt8} {us : List Tk.Tok} (hc : Tk.cutR l 0 = .ok us) : ¬ (eOf (ansOf progR l) = 0 ∧ eOf (ansOf exprR l) = 0) := by
  rintro ⟨h1, h2⟩
  have ht := ts_ok hc
  have g1 : ∃ v s, progR (us.map cvT) = .ok v s := by
    rcases (progR_ok ht).cases with ⟨v, s', q, _⟩ | ⟨p, e, q, _, q2⟩
    · exact ⟨v, s', q⟩
    · rw [ansOf_no hc q] at h1
      have : (e : Int) = 0 := h1
      omega
  have g2 : ∃ v s, exprR (us.map cvT) = .ok v s := by
    rcases (exprR_ok ht).cases with ⟨v, s', q, _⟩ | ⟨p, e, q, _, q2⟩
    · exact ⟨v, s', q⟩
    · rw [ansOf_no hc q] at h2
      have : (e : Int) = 0 := h2
      omega
  obtain ⟨v, s, q⟩ := g1
  obtain ⟨v2, s2, q2⟩ := g2
  exact not_both ht (kind_ok hc) q q2
def WT2 (p er : Int) (w : World) (e : Ending) (w' : World) : Prop := ∃ A n c r, e = .returned (.tuple #[.agg #[.slice A n c, .int .i64 r], .int .i64 p, .int .i64 er]) ∧ Below w.heap.size w w'
def WCut (us : List Tk.Tok) (w : World) (e : Ending) (w' : World) : Prop := ∃ A c, e = .returned (.tuple #[.slice A us.length c, .int .i64 0, .int .i64 0]) ∧ Below w.heap.size w w' ∧ Toks w' A (us.map cvT)
set_option maxRecDepth 100000 in
set_option maxHeartbeats 2500000 in
theorem places_any (s : ByteArray) (w : World) (hE : Tk.Errs w) : Calls Tryz.prog 7 #[.string s] w (VPost (.bool true) w) := by
  have HS := Lib.hid (shown_any w hE)
  by_cases hs : s.size ≤ 1500
  · have hs2 : ¬ (1500 : Int) < (s.size : Int) := by omega
    have HP := Lib.hid (fun w' (q : Below w.heap.size w w') => (program_any s w' (hE.below q) (by omega)).mono fun _ _ r => WTree.of q r)
    have HX := Lib.hid (fun w' (q : Below w.heap.size w w') => (expr_any s w' (hE.below q) (by omega)).mono fun _ _ r => WTree.of q r)
    cases hc : Tk.cutR s.data.toList 0 with
    | bad p =>
      have HC := Lib.hid (fun w' (q : Below w.heap.size w w') => show Calls Tryz.prog 13 #[.string s] w' (WPost (.tuple #[.slice none 0 0, .int .i64 (p : Int), .int .i64 2]) w) from (Tk.cut_any s w' (hE.below q) (by omega)).mono fun _ _ r => by
        obtain ⟨r1, r2⟩ := r
        rw [hc] at r2
        exact ⟨r2, bt q r1⟩)
      have HN := Lib.hid (fun w' (q : Below w.heap.size w w') => show Calls Tryz.prog 17 #[.string s] w' (WPost (.int .i64 (-1)) w) from (nest_any s w' (hE.below q) (by omega)).mono fun _ _ r => by
        rw [ansOf_cut (R := progR) hc, ansOf_cut (R := exprR) hc] at r
        exact ⟨r.1, bt q r.2⟩)
      rw [ansOf_cut (R := progR) hc] at HP
      rw [ansOf_cut (R := exprR) hc] at HX
      have ep : pOf (.bad p 2) = (p : Int) := rfl
      have ee : eOf (.bad p 2) = 2 := rfl
      unfold WTree at HP HX
      rw [ep, ee] at HP HX
      clear hc hE ep ee
      go_enter Tryz.func7, Tryz.ntmps7
      go_wp2_with (first | (go_at_call 8; refine HS.out.mono ?_; rintro e w1 ⟨rfl, hb1⟩) | (go_at_call 13; refine (HC.out _ (by first | assumption | exact bt (by assumption) (heap1 _ _))).mono ?_; rintro e w2 ⟨rfl, hb2⟩) | (go_at_call 9; refine (HP.out _ (by first | assumption | exact bt (by assumption) (heap1 _ _))).mono ?_; rintro e w3 ⟨A3, n3, c3, r3, rfl, hb3⟩) | (go_at_call 16; refine (HX.out _ (by first | assumption | exact bt (by assumption) (heap1 _ _))).mono ?_; rintro e w4 ⟨A4, n4, c4, r4, rfl, hb4⟩) | (go_at_call 17; refine (HN.out _ (by first | assumption | exact bt (by assumption) (heap1 _ _))).mono ?_; rintro e w5 ⟨rfl, hb5⟩))
      go_ret
      exact ⟨rfl, hb5⟩
    | ok us =>
      have HC := Lib.hid (fun w' (q : Below w.heap.size w w') => show Calls Tryz.prog 13 #[.string s] w' (WCut us w) from (Tk.cut_any s w' (hE.below q) (by omega)).mono fun _ _ r => by
        obtain ⟨r1, r2⟩ := r
        rw [hc] at r2
        obtain ⟨A, c, r3, r4, _⟩ := r2
        exact ⟨A, c, r3, bt q r1, toks_cv r4⟩)
      have hl := ts_len hc
      have hsz : s.data.toList.length = s.size := by simp
      have HA := Lib.hid (fun w' A c (q : Toks w' A (us.map cvT)) => show Calls Tryz.prog 20 #[.slice A us.length c, .int .i64 (pOf (ansOf progR s.data.toList)), .int .i64 (eOf (ansOf progR s.data.toList))] w' (VPost (.bool true) w') from (by
        have r := told_a (c := c) q (by rw [List.length_map]; omega) (tq_of hc (progR_ok (ts_ok hc)))
        rw [List.length_map] at r
        exact r))
      have HB := Lib.hid (fun w' A c (q : Toks w' A (us.map cvT)) => show Calls Tryz.prog 20 #[.slice A us.length c, .int .i64 (pOf (ansOf exprR s.data.toList)), .int .i64 (eOf (ansOf exprR s.data.toList))] w' (VPost (.bool true) w') from (by
        have r := told_a (c := c) q (by rw [List.length_map]; omega) (tq_of hc (exprR_ok (ts_ok hc)))
        rw [List.length_map] at r
        exact r))
      have hno := not_two hc
      have HP := Lib.hid (fun w' (q : Below w.heap.size w w') => (program_any s w' (hE.below q) (by omega)).mono fun _ _ r => WTree.of (Below.refl _ _) r)
      have HX := Lib.hid (fun w' (q : Below w.heap.size w w') => (expr_any s w' (hE.below q) (by omega)).mono fun _ _ r => WTree.of (Below.refl _ _) r)
      change Hid (∀ w', Below w.heap.size w w' → Calls Tryz.prog 9 #[.string s] w' (WT2 (pOf (ansOf progR s.data.toList)) (eOf (ansOf progR s.data.toList)) w')) at HP
      change Hid (∀ w', Below w.heap.size w w' → Calls Tryz.prog 16 #[.string s] w' (WT2 (pOf (ansOf exprR s.data.toList)) (eOf (ansOf exprR s.data.toList)) w')) at HX
      generalize pOf (ansOf progR s.data.toList) = pa at *
      generalize eOf (ansOf progR s.data.toList) = ea at *
      generalize pOf (ansOf exprR s.data.toList) = pb at *
      generalize eOf (ansOf exprR s.data.toList) = eb at *
      clear hc hE hl hsz
      by_cases h0 : ea = 0
      · have dA : (ea == 0) = true := by rw [beq_iff_eq]; exact h0
        have dB : (eb == 0) = false := by rw [beq_eq_false_iff_ne]; exact fun q => hno ⟨h0, q⟩
        clear hno h0
        go_enter Tryz.func7, Tryz.ntmps7
        go_wp2_with (first | (go_at_call 8; refine HS.out.mono ?_; rintro e w1 ⟨rfl, hb1⟩) | (go_at_call 13; refine (HC.out _ (by first | assumption | exact bt (by assumption) (heap1 _ _))).mono ?_; rintro e w2 ⟨A, c, rfl, hb2, hT⟩) | (go_at_call 9; refine (HP.out _ hb2).mono ?_; rintro e w3 ⟨A3, n3, c3, r3, rfl, hb3⟩) | (go_at_call 16; refine (HX.out _ (bt (bt hb2 hb3) (heap1 _ _))).mono ?_))
        rintro e w4 ⟨A4, n4, c4, r4, rfl, hb4⟩
        have hT5 := (((hT.below hb3).below (heap1 w3 (.cells #[.slice A3 n3 c3, .int .i64 r3] 25))).below hb4).below (heap1 w4 (.cells #[.slice A4 n4 c4, .int .i64 r4] 25))
        have HW := Lib.hid (bt (bt (bt (bt hb2 hb3) (heap1 w3 (.cells #[.slice A3 n3 c3, .int .i64 r3] 25))) hb4) (heap1 w4 (.cells #[.slice A4 n4 c4, .int .i64 r4] 25)))
        have HT := Lib.hid hT5
        clear hT hT5 hb4 hb3 hb2 hb1
        go_wp2_with (go_at_call 20; refine (HA.out _ _ _ HT.out).mono ?_)
        rintro e w6 ⟨rfl, hb6⟩
        have HT6 := Lib.hid (HT.out.below hb6)
        have HW6 := Lib.hid (bt HW.out hb6)
        clear hb6
        go_wp2_with (go_at_call 20; refine (HB.out _ _ _ HT6.out).mono ?_; rintro e w7 ⟨rfl, hb7⟩)
        go_ret
        exact ⟨rfl, bt HW6.out hb7⟩
      · have dA : (ea == 0) = false := by rw [beq_eq_false_iff_ne]; exact h0
        clear hno h0
        go_enter Tryz.func7, Tryz.ntmps7
        go_wp2_with (first | (go_at_call 8; refine HS.out.mono ?_; rintro e w1 ⟨rfl, hb1⟩) | (go_at_call 13; refine (HC.out _ (by first | assumption | exact bt (by assumption) (heap1 _ _))).mono ?_; rintro e w2 ⟨A, c, rfl, hb2, hT⟩) | (go_at_call 9; refine (HP.out _ hb2).mono ?_; rintro e w3 ⟨A3, n3, c3, r3, rfl, hb3⟩) | (go_at_call 16; refine (HX.out _ (bt (bt hb2 hb3) (heap1 _ _))).mono ?_))
        rintro e w4 ⟨A4, n4, c4, r4, rfl, hb4⟩
        have hT5 := (((hT.below hb3).below (heap1 w3 (.cells #[.slice A3 n3 c3, .int .i64 r3] 25))).below hb4).below (heap1 w4 (.cells #[.slice A4 n4 c4, .int .i64 r4] 25))
        have HW := Lib.hid (bt (bt (bt (bt hb2 hb3) (heap1 w3 (.cells #[.slice A3 n3 c3, .int .i64 r3] 25))) hb4) (heap1 w4 (.cells #[.slice A4 n4 c4, .int .i64 r4] 25)))
        have HT := Lib.hid hT5
        clear hT hT5 hb4 hb3 hb2 hb1
        go_wp2_with (go_at_call 20; refine (HA.out _ _ _ HT.out).mono ?_)
        rintro e w6 ⟨rfl, hb6⟩
        have HT6 := Lib.hid (HT.out.below hb6)
        have HW6 := Lib.hid (bt HW.out hb6)
        clear hb6
        go_wp2_with (go_at_call 20; refine (HB.out _ _ _ HT6.out).mono ?_; rintro e w7 ⟨rfl, hb7⟩)
        go_ret
        exact ⟨rfl, bt HW6.out hb7⟩
  · have hs2 : (1500 : Int) < (s.size : Int) := by omega
    clear hE hs
    go_enter Tryz.func7, Tryz.ntmps7
    go_wp2_with (go_at_call 8; refine HS.out.mono ?_; rintro e w1 ⟨rfl, hb1⟩)
    go_ret
    exact ⟨rfl, hb1⟩
end Go.Proofs.YtdoeinjplgeadaaGreatDoor
