/- PROVED here: the walk of TokenPlaces. No condition but those in each theorem's own head. -/
import Derived.Test.YtahmadelokofbaaDoorV
namespace Go.Proofs.YtahmadelokofbaaDoor
open Go Go.RowKit

def PInv (l : List UInt8) (ts : List Tok) (i a : Nat) : Prop := a ≤ l.length ∧ (i < ts.length → cutL a (l.drop a) = .ok (ts.drop i)) ∧ (i = ts.length → a = l.length)
theorem pinv_start {l : List UInt8} {ts : List Tok} (h : cutL 0 l = .ok ts) (h0 : 0 < ts.length) : PInv l ts 0 0 := ⟨Nat.zero_le _, fun _ => by simpa using h, fun e => by omega⟩
/-- what a round is about: the token's place, its text, whether it is the last -/
structure PStep (l : List UInt8) (ts : List Tok) (i a : Nat) (t : Tok) (b : Bool) : Prop where
  le : a ≤ t.p
  inl : t.p + t.s.length ≤ l.length
  txt : sub l t.p (t.p + t.s.length) = t.s
  last : b = decide (i + 1 = ts.length)
  kind : b = decide (t.k = 5)
  empty : b = t.s.isEmpty
  gap : cutL 0 (sub l a t.p) = .ok [endT (t.p - a)]
  next : PInv l ts (i + 1) (t.p + t.s.length)
theorem pinv_step {l : List UInt8} {ts : List Tok} {i a : Nat} (h : PInv l ts i a) (hi : i < ts.length) : ∃ b, PStep l ts i a ts[i] b := by
  obtain ⟨ha, h1, _⟩ := h
  have hc := h1 hi
  rw [List.drop_eq_getElem_cons hi] at hc
  have hla : a + (l.drop a).length = l.length := by rw [List.length_drop]; omega
  rcases cutL_next _ _ _ (Nat.le_refl _) _ _ hc with ⟨e1, e2, e3⟩ | ⟨g, g1, g2, g3, g4, g5, g6, g7⟩
  · have hlast : i + 1 = ts.length := by
      have := congrArg List.length e1
      simp at this; omega
    refine ⟨true, ?_⟩
    rw [e2, hla]
    have hs : (endT l.length).s = [] := rfl
    have hp : (endT l.length).p = l.length := rfl
    refine ⟨ha, by rw [hs, hp]; simp, by rw [hs, hp]; simp [sub], by simp [hlast], rfl, rfl, ?_, ?_⟩
    · rw [hp]; unfold sub
      rw [List.take_of_length_le (by rw [List.length_drop]; omega), e3, List.length_drop]
    · rw [hs, hp]
      exact ⟨by simp, fun hh => by omega, fun _ => by simp⟩
  · have hne : i + 1 ≠ ts.length := by
      intro hh
      rw [show ts.drop (i + 1) = [] from List.drop_of_length_le (by omega)] at g7
      rcases cutL_form _ (a + g + ts[i].s.length) ((l.drop a).drop (g + ts[i].s.length)) (Nat.le_refl _) with ⟨us, e, _⟩ | ⟨p, e, _⟩
      · rw [e] at g7; have := ok_inj g7; simp at this
      · rw [e] at g7; cases g7
    rw [List.length_drop] at g1
    refine ⟨false, ⟨by omega, by omega, ?_, by simp [hne], by simp [g5], ?_, ?_, ?_⟩⟩
    · unfold sub
      rw [g2, show a + g + ts[i].s.length - (a + g) = ts[i].s.length by omega, ← List.drop_drop]
      exact g3
    · cases hh : ts[i].s with
      | nil => exact absurd hh g4
      | cons c r => rfl
    · unfold sub
      rw [g2, show a + g - a = g by omega]; exact g6
    · refine ⟨by omega, fun _ => ?_, fun hh => by omega⟩
      rw [g2, List.drop_drop] at *
      rw [show a + g + ts[i].s.length = a + (g + ts[i].s.length) by omega]
      rw [show a + g + ts[i].s.length = a + (g + ts[i].s.length) by omega] at g7
      exact g7
theorem bs_size (l : List UInt8) : (bs l).size = l.length := by simp [bs, ByteArray.size]
theorem ext_bs (s : ByteArray) (p q : Nat) : s.extract p q = bs (sub s.data.toList p q) := by
  rw [← ext_sub, bs_of]
theorem bs_empty (l : List UInt8) : (bs l).toList.isEmpty = l.isEmpty := by rw [ByteArray.toList_eq, bs_list]
set_option maxRecDepth 100000 in
set_option maxHeartbeats 3000000 in
theorem places_ok (s : ByteArray) (w : World) (hE : Errs w) (h2 : s.size ≤ 2000) (ts : List Tok) (hr : cutL 0 s.data.toList = .ok ts) (hl : ts.length ≤ 2001) (h0 : 0 < ts.length) : Calls Tryd.prog 6 #[.string s] w (TruePost w) := by
  have HE := Lib.hid hE
  have HR := Lib.hid hr
  have HL := Lib.hid (show s.data.toList.length = s.size by simp)
  clear hE hr
  have hz : ¬ (2000 : Int) < (s.size : Int) := by omega
  have hd : decide ((2000 : Int) < (s.size : Int)) = false := decide_eq_false hz
  go_enter Tryd.func6, Tryd.ntmps6
  go_upto_region 4 with (go_at_call 10; refine (shown_any _ HE.out).mono ?_; rintro e w1 ⟨rfl, hb1⟩)
  go_wp2_with (go_at_call 11; refine (cut_okP s _ (HE.out.below hb1) (by omega) HR.out rfl).mono ?_)
  rintro e w2 ⟨A, cA, rfl, hT, _, _, hb2⟩
  obtain ⟨b, off, rfl, hbl⟩ := hT.some h0
  have HT := Lib.hid hT
  have HE2 := Lib.hid (HE.out.below (bt hb1 hb2))
  have hb12 := bt hb1 hb2
  have HI := Lib.hid (pinv_start HR.out h0)
  clear hT hb1 hb2
  obtain ⟨n, hn⟩ : ∃ n, n = ts.length := ⟨_, rfl⟩
  rw [← hn] at hl h0
  rw [← hn]
  have HN := Lib.hid hn
  clear hn
  go_wp2_with (fail)
  go_loopw [7, 8] (fun v i wr => ∃ j a : Nat, j ≤ n ∧ i = .int .i64 (j : Int) ∧ v = .int .i64 (a : Int) ∧ PInv s.data.toList ts j a ∧ Below w2.heap.size w2 wr) (fun _ i _ => n - (intOf i).toNat)
  case atStart => exact ⟨0, 0, Nat.zero_le _, rfl, rfl, HI.out, Below.refl _ _⟩
  case round =>
    obtain ⟨j, a, hj, rfl, rfl, hI, hb⟩ := hrel
    have HP := Lib.hid hI
    clear hI
    by_cases hlt : j < n
    · have hlz : (j : Int) < (n : Int) := by omega
      have hlt2 : j < ts.length := by rw [← HN.out]; exact hlt
      obtain ⟨last, st⟩ := pinv_step HP.out hlt2
      obtain ⟨b', off', e, _, c0, c1, c2, c3⟩ := (HT.out.below hb).cells hlt2
      injection e with e
      injection e with e1 e2
      subst e1 e2
      have i1 := st.le
      have i2 := st.inl
      have HX := Lib.hid st.txt
      have HLa := Lib.hid st.last
      have HK := Lib.hid st.kind
      have HEm := Lib.hid st.empty
      have HG := Lib.hid st.gap
      have HNx := Lib.hid st.next
      clear st c1
      generalize ts[j] = t at *
      rw [HL.out] at i2
      obtain ⟨pp, hpp⟩ : ∃ pp, pp = t.p := ⟨_, rfl⟩
      obtain ⟨m, hm⟩ : ∃ m, m = t.s.length := ⟨_, rfl⟩
      obtain ⟨x, hx⟩ : ∃ x, x = bs t.s := ⟨_, rfl⟩
      have hsl1 : ∀ w', (Instr.slice 9 (.string s) (some (.int .i64 (pp : Int))) (some (.int .i64 ((pp : Int) + (m : Int)))) none).run Tryd.prog w' = .ok (.string x) w' := by
        rw [hx, ← HX.out, ← ext_bs, hpp, hm]
        exact slice_lay s t.p (t.p + t.s.length) _ (by omega) (by omega) i2
      obtain ⟨z, hzz⟩ : ∃ z, z = s.extract a pp := ⟨_, rfl⟩
      have hsl2 : ∀ w', (Instr.slice 9 (.string s) (some (.int .i64 (a : Int))) (some (.int .i64 (pp : Int))) none).run Tryd.prog w' = .ok (.string z) w' := by
        rw [hzz]; exact slice_lay s a pp _ rfl (by omega) (by omega)
      have HZ := Lib.hid (show cutL 0 z.data.toList = .ok [endT (pp - a)] by rw [hzz, ext_sub, hpp]; exact HG.out)
      have HZs := Lib.hid (show z.size ≤ 20000 by
        have : z.data.toList.length ≤ s.size := by rw [hzz, ext_sub]; unfold sub; simp; omega
        simp at this; omega)
      have HNx2 := Lib.hid (show PInv s.data.toList ts (j + 1) (pp + m) by rw [hpp, hm]; exact HNx.out)
      rw [← hpp] at i1 i2 c2
      rw [← hm] at i2
      rw [← hx] at c3
      have hxm : x.size = m := by rw [hx, bs_size, hm]
      have q1 : decide ((pp : Int) < (a : Int)) = false := decide_eq_false (by omega)
      have q2 : decide ((s.size : Int) < (pp : Int) + (m : Int)) = false := decide_eq_false (by omega)
      have q3 : (x.toList != x.toList) = false := by simp
      have q4 : ((t.k : Int) == 5) = last := by
        rw [HK.out, Bool.eq_iff_iff, beq_iff_eq, decide_eq_true_iff]; omega
      have q5 : ((j : Int) == (n : Int) - 1) = last := by
        rw [HLa.out, Bool.eq_iff_iff, beq_iff_eq, decide_eq_true_iff, ← HN.out]; omega
      have q6 : x.toList.isEmpty = last := by rw [hx, bs_empty, HEm.out]
      have hw1 : IntKind.i64.wrap ((pp : Int) + (m : Int)) = (pp : Int) + (m : Int) := IntWalk.i64_in _ (by omega)
      have hw2 : IntKind.i64.wrap ((n : Int) - 1) = (n : Int) - 1 := IntWalk.i64_in _ (by omega)
      generalize t.k = kk at *
      have HXm := Lib.hid hxm
      clear hpp hm hx hzz HX HLa HK HEm HG HNx
      go_wp2_with (fail)
      go_quiet (fail)
      cases last
      all_goals
        go_wp2_with (fail)
        go_quiet (fail)
        go_wp2_with (go_at_call 11; refine (cut_okP z _ (by first | exact HE2.out.below (below_drewN hb _) | exact HE2.out.below (below_drewN (below_drewN hb _) _)) HZs.out HZ.out (n := 1) rfl).mono ?_)
        rintro e w4 ⟨A4, c4, rfl, _, _, _, hb4⟩
        have hb5 : Below w2.heap.size w2 w4 := by
          first
          | exact bt (below_drewN hb _) hb4
          | exact bt (below_drewN (below_drewN hb _) _) hb4
        clear hb4
        go_wp2
        go_roundw
        case rel => exact ⟨j + 1, pp + m, by omega, by go_num, by go_num, HNx2.out, hb5⟩
        case measure => simp [intOf]; omega
    · have hlz : ¬ (j : Int) < (n : Int) := by omega
      have hq : ((a : Int) == (s.size : Int)) = true := beq_iff_eq.2 (by
        have := HP.out.2.2 (by rw [← HN.out]; omega)
        rw [HL.out] at this; omega)
      go_wp2
      go_ret
      exact ⟨rfl, bt hb12 hb⟩
set_option maxRecDepth 100000 in
set_option maxHeartbeats 1000000 in
theorem places_bad (s : ByteArray) (w : World) (hE : Errs w) (h2 : s.size ≤ 2000) (p : Nat) (hr : cutL 0 s.data.toList = .bad p) : Calls Tryd.prog 6 #[.string s] w (TruePost w) := by
  have HE := Lib.hid hE
  have HR := Lib.hid hr
  clear hE hr
  have hz : ¬ (2000 : Int) < (s.size : Int) := by omega
  have hd : decide ((2000 : Int) < (s.size : Int)) = false := decide_eq_false hz
  go_enter Tryd.func6, Tryd.ntmps6
  go_upto_region 4 with (go_at_call 10; refine (shown_any _ HE.out).mono ?_; rintro e w1 ⟨rfl, hb1⟩)
  go_wp2_with (go_at_call 11; refine (cut_badP s _ (HE.out.below hb1) (by omega) HR.out).mono ?_)
  rintro e w2 ⟨rfl, hb2⟩
  go_wp2
  go_ret
  exact ⟨rfl, bt hb1 hb2⟩
theorem places_any (s : ByteArray) (w : World) (hE : Errs w) : Calls Tryd.prog 6 #[.string s] w (TruePost w) := by
  by_cases h0 : 2000 < s.size
  · have HE := Lib.hid hE
    clear hE
    have hz : (2000 : Int) < (s.size : Int) := by omega
    go_enter Tryd.func6, Tryd.ntmps6
    go_wp2_with (go_at_call 10; refine (shown_any _ HE.out).mono ?_; rintro e w1 ⟨rfl, hb1⟩)
    go_ret
    exact ⟨rfl, hb1⟩
  · have es : s.data.toList.length = s.size := by simp
    rcases cutL_form s.data.toList.length 0 s.data.toList (Nat.le_refl _) with ⟨xs, e, hg, hb⟩ | ⟨p, e, p1, p2⟩
    · have b1 := bulk_len hg
      exact places_ok s w hE (by omega) _ e (by simp; omega) (by simp)
    · exact places_bad s w hE (by omega) p e
end Go.Proofs.YtahmadelokofbaaDoor
