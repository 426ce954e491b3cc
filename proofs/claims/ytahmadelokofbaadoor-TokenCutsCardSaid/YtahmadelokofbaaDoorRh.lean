/- PROVED here: the walk of TokenCuts. No condition but those in each theorem's own head. -/
import Derived.Test.YtahmadelokofbaaDoorRg
namespace Go.Proofs.YtahmadelokofbaaDoor
open Go Go.RowKit

theorem rcut_okP (s : ByteArray) (w : World) (hs : s.size ≤ 2000) {ts : List Tok} {n : Nat} (h : cutL 0 s.data.toList = .ok ts) (hn : ts.length = n) : Calls Tryd.prog 12 #[.string s] w (OkP ts n w) := by
  subst hn
  exact (rcut_any s w hs).mono fun _ _ hp => post_ok hp (by rw [cutR_0]; exact h)
theorem rcut_badP (s : ByteArray) (w : World) (hs : s.size ≤ 2000) {p : Nat} (h : cutL 0 s.data.toList = .bad p) : Calls Tryd.prog 12 #[.string s] w (BadPost (p : Int) w) :=
  (rcut_any s w hs).mono fun _ _ hp => post_bad hp (by rw [cutR_0]; exact h)
theorem same_n (A B : Option Addr) (ca cb n : Nat) (ts : List Tok) (w : World) (hA : Toks w A ts) (hB : Toks w B ts) (h1 : ts.length = n) (hl : n ≤ 20001) :
    Calls Tryd.prog 13 #[.slice A n ca, .slice B n cb] w fun e w' => e = .returned (.bool true) ∧ Below w.heap.size w w' := by
  have := same_any A B ca cb ts ts w hA hB (by omega)
  rw [h1] at this
  exact this.mono fun _ _ ⟨e, n, h⟩ => ⟨by rw [e, show sameB ts ts = true from decide_eq_true rfl], by rw [h]; exact below_drewN (Below.refl _ _) n⟩
set_option maxRecDepth 100000 in
set_option maxHeartbeats 1500000 in
theorem cuts_bad (s : ByteArray) (w : World) (hE : Errs w) (h2 : s.size ≤ 2000) (p : Nat) (hr : cutL 0 s.data.toList = .bad p) : Calls Tryd.prog 3 #[.string s] w (TruePost w) := by
  have HE := Lib.hid hE
  have HR := Lib.hid hr
  clear hE hr
  have hz : ¬ (2000 : Int) < (s.size : Int) := by omega
  have hd : decide ((2000 : Int) < (s.size : Int)) = false := decide_eq_false hz
  have q1 : ((p : Int) == (p : Int)) = true := beq_iff_eq.2 rfl
  go_enter Tryd.func3, Tryd.ntmps3
  go_upto_region 4 with (go_at_call 10; refine (shown_any _ HE.out).mono ?_; rintro e w1 ⟨rfl, hb1⟩)
  go_wp2_with (go_at_call 11; refine (cut_badP s _ (HE.out.below hb1) (by omega) HR.out).mono ?_)
  rintro e w2 ⟨rfl, hb2⟩
  go_wp2_with (go_at_call 12; refine (rcut_badP s _ h2 HR.out).mono ?_)
  rintro e w3 ⟨rfl, hb3⟩
  go_wp2_with (go_at_call 13; refine (same_n none none 0 0 0 [] _ (fun h => by simp at h) (fun h => by simp at h) rfl (by omega)).mono ?_; rintro e w4 ⟨rfl, hb4⟩)
  go_ret
  exact ⟨by simp, bt (bt (bt hb1 hb2) hb3) hb4⟩
set_option maxRecDepth 100000 in
set_option maxHeartbeats 1500000 in
theorem cuts_ok (s : ByteArray) (w : World) (hE : Errs w) (h2 : s.size ≤ 2000) (ts : List Tok) (n : Nat) (hr : cutL 0 s.data.toList = .ok ts) (hn : ts.length = n) (hl : n ≤ 2001) : Calls Tryd.prog 3 #[.string s] w (TruePost w) := by
  have HE := Lib.hid hE
  have HR := Lib.hid hr
  have HN := Lib.hid hn
  clear hE hr hn
  have hz : ¬ (2000 : Int) < (s.size : Int) := by omega
  have hd : decide ((2000 : Int) < (s.size : Int)) = false := decide_eq_false hz
  go_enter Tryd.func3, Tryd.ntmps3
  go_upto_region 4 with (go_at_call 10; refine (shown_any _ HE.out).mono ?_; rintro e w1 ⟨rfl, hb1⟩)
  go_wp2_with (go_at_call 11; refine (cut_okP s _ (HE.out.below hb1) (by omega) HR.out HN.out).mono ?_)
  rintro e w2 ⟨A, cA, rfl, hTA, _, _, hb2⟩
  have HTA := Lib.hid hTA
  clear hTA
  go_wp2_with (go_at_call 12; refine (rcut_okP s _ h2 HR.out HN.out).mono ?_)
  rintro e w3 ⟨B, cB, rfl, hTB, _, _, hb3⟩
  have HTB := Lib.hid hTB
  have HTA3 := Lib.hid (HTA.out.below hb3)
  clear hTB
  go_wp2_with (go_at_call 13; refine (same_n A B cA cB n ts _ HTA3.out HTB.out HN.out (by omega)).mono ?_; rintro e w4 ⟨rfl, hb4⟩)
  go_ret
  exact ⟨by simp, bt (bt (bt hb1 hb2) hb3) hb4⟩
theorem cuts_any (s : ByteArray) (w : World) (hE : Errs w) : Calls Tryd.prog 3 #[.string s] w (TruePost w) := by
  by_cases h0 : 2000 < s.size
  · have HE := Lib.hid hE
    clear hE
    have hz : (2000 : Int) < (s.size : Int) := by omega
    go_enter Tryd.func3, Tryd.ntmps3
    go_wp2_with (go_at_call 10; refine (shown_any _ HE.out).mono ?_; rintro e w1 ⟨rfl, hb1⟩)
    go_ret
    exact ⟨rfl, hb1⟩
  · have es : s.data.toList.length = s.size := by simp
    rcases cutL_form s.data.toList.length 0 s.data.toList (Nat.le_refl _) with ⟨xs, e, hg, hb⟩ | ⟨p, e, p1, p2⟩
    · have b1 := bulk_len hg
      exact cuts_ok s w hE (by omega) _ (xs.length + 1) e (by simp) (by omega)
    · exact cuts_bad s w hE (by omega) p e
end Go.Proofs.YtahmadelokofbaaDoor
