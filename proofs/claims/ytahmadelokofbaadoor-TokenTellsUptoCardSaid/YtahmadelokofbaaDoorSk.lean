/- PROVED here: the walk of TokenTells. No condition but those in each theorem's own head. -/
import Derived.Test.YtahmadelokofbaaDoorSi
namespace Go.Proofs.YtahmadelokofbaaDoor
open Go Go.RowKit

theorem place_two (s : ByteArray) (t : Int) (hs : s.size ≤ 500) : ∃ a b : Int, (∀ w, Calls Tryd.prog 14 #[.string s, .int .i64 t] w fun e w' => e = .returned (.tuple #[.int .i64 a, .int .i64 b]) ∧ w = w') ∧
    (∀ w, Calls Tryd.prog 15 #[.string s, .int .i64 t] w fun e w' => e = .returned (.tuple #[.int .i64 a, .int .i64 b]) ∧ w = w') :=
  ⟨_, _, fun w => place_any s t w (by omega), fun w => rplace_any s t w hs⟩
set_option maxRecDepth 100000 in
set_option maxHeartbeats 3000000 in
theorem tells_in (s t : ByteArray) (A : Option Addr) (c : Nat) (l : List RTok) (n : Int) (w : World) (hE : Errs w) (hT : RToks w A l) (h1 : s.size ≤ 500) (h2 : t.size ≤ 500) (h3 : l.length ≤ 100) (hj : tot l ≤ 9000000) :
    Calls Tryd.prog 4 #[.string s, .string t, .slice A l.length c, .int .i64 n] w (TruePost w) := by
  have HE := Lib.hid hE
  have HT := Lib.hid hT
  clear hE hT
  have hs : s.size ≤ 281474976710656 := by omega
  obtain ⟨a, b, hP1, hP2⟩ := place_two t n h2
  have HP1 := Lib.hid hP1
  have HP2 := Lib.hid hP2
  clear hP1 hP2
  have HJT := Lib.hid (join_tot l)
  obtain ⟨y, hy⟩ : ∃ y, y = bs (Lib.join (rtx l) [32]) := ⟨_, rfl⟩
  have J1 := Lib.hid (show ∀ w, RToks w A l → Calls Tryd.prog 20 #[.slice A l.length c] w (fun e w' => e = .returned (.string y) ∧ Below w.heap.size w w') from fun w h => by
    rw [hy]; exact join_any A c l w h (by omega) (by have := HJT.out; omega))
  have J2 := Lib.hid (show ∀ w, RToks w A l → Calls Tryd.prog 21 #[.slice A l.length c] w (fun e w' => e = .returned (.string y) ∧ w = w') from fun w h => by
    rw [hy]; exact rjoin_any A c l w h h3 hj)
  clear hy
  have z1 : ¬ (500 : Int) < (s.size : Int) := by omega
  have y1 : decide ((500 : Int) < (s.size : Int)) = false := decide_eq_false z1
  have z2 : ¬ (500 : Int) < (t.size : Int) := by omega
  have y2 : decide ((500 : Int) < (t.size : Int)) = false := decide_eq_false z2
  have z3 : ¬ (100 : Int) < (l.length : Int) := by omega
  have y3 : decide ((100 : Int) < (l.length : Int)) = false := decide_eq_false z3
  obtain ⟨kb, hkb⟩ : ∃ kb, kb = keptB s.data.toList := ⟨_, rfl⟩
  obtain ⟨ib, hib⟩ : ∃ ib, ib = idB s.data.toList := ⟨_, rfl⟩
  have K1 := Lib.hid (show ∀ w, Calls Tryd.prog 16 #[.string s] w (fun e w' => e = .returned (.bool kb) ∧ w = w') from fun w => by rw [hkb]; exact kept_l s w)
  have K2 := Lib.hid (show ∀ w, Calls Tryd.prog 17 #[.string s] w (fun e w' => e = .returned (.bool kb) ∧ Below w.heap.size w w') from fun w => by rw [hkb]; exact rkept_any s w)
  have I1 := Lib.hid (show ∀ w, Calls Tryd.prog 18 #[.string s] w (fun e w' => e = .returned (.bool ib) ∧ w = w') from fun w => by rw [hib]; exact ident_any s w hs)
  have I2 := Lib.hid (show ∀ w, Calls Tryd.prog 19 #[.string s] w (fun e w' => e = .returned (.bool ib) ∧ Below w.heap.size w w') from fun w => by rw [hib]; exact rident_any s w hs)
  clear hkb hib
  have qk : (kb == kb) = true := beq_iff_eq.2 rfl
  have qi : (ib == ib) = true := beq_iff_eq.2 rfl
  have qy : (y.toList == y.toList) = true := beq_iff_eq.2 rfl
  have qa : (a == a) = true := beq_iff_eq.2 rfl
  have qb : (b == b) = true := beq_iff_eq.2 rfl
  go_enter Tryd.func4, Tryd.ntmps4
  go_upto_region 4 with (go_at_call 10; refine (shown_any _ HE.out).mono ?_; rintro e w1 ⟨rfl, hb1⟩)
  go_wp2_with (first | (go_at_call 14; refine (HP1.out _).mono ?_; rintro e w' ⟨rfl, rfl⟩) | (go_at_call 15; refine (HP2.out _).mono ?_; rintro e w' ⟨rfl, rfl⟩) | (go_at_call 16; refine (K1.out _).mono ?_; rintro e w' ⟨rfl, rfl⟩) | (go_at_call 17; refine (K2.out _).mono ?_; rintro e w2 ⟨rfl, hb2⟩) | (go_at_call 18; refine (I1.out _).mono ?_; rintro e w' ⟨rfl, rfl⟩) | (go_at_call 19; refine (I2.out _).mono ?_; rintro e w3 ⟨rfl, hb3⟩) | (go_at_call 20; refine (J1.out _ (HT.out.below (bt (bt hb1 hb2) hb3))).mono ?_))
  rintro e w4 ⟨rfl, hb4⟩
  have hb := bt (bt (bt hb1 hb2) hb3) hb4
  go_wp2_with (go_at_call 21; refine (J2.out _ (HT.out.below hb)).mono ?_; rintro e w' ⟨rfl, rfl⟩)
  go_ret
  exact ⟨by simp, hb⟩
theorem tells_any (s t : ByteArray) (A : Option Addr) (c : Nat) (l : List RTok) (n : Int) (w : World) (hE : Errs w) (hT : RToks w A l) (hj : tot l ≤ 9000000) :
    Calls Tryd.prog 4 #[.string s, .string t, .slice A l.length c, .int .i64 n] w (TruePost w) := by
  by_cases h1 : s.size ≤ 500
  · by_cases h2 : t.size ≤ 500
    · by_cases h3 : l.length ≤ 100
      · exact tells_in s t A c l n w hE hT h1 h2 h3 hj
      · have HE := Lib.hid hE
        clear hE
        have z1 : ¬ (500 : Int) < (s.size : Int) := by omega
        have z2 : ¬ (500 : Int) < (t.size : Int) := by omega
        have z3 : (100 : Int) < (l.length : Int) := by omega
        go_enter Tryd.func4, Tryd.ntmps4
        go_wp2_with (go_at_call 10; refine (shown_any _ HE.out).mono ?_; rintro e w1 ⟨rfl, hb1⟩)
        go_ret
        exact ⟨rfl, hb1⟩
    · have HE := Lib.hid hE
      clear hE
      have z1 : ¬ (500 : Int) < (s.size : Int) := by omega
      have z2 : (500 : Int) < (t.size : Int) := by omega
      go_enter Tryd.func4, Tryd.ntmps4
      go_wp2_with (go_at_call 10; refine (shown_any _ HE.out).mono ?_; rintro e w1 ⟨rfl, hb1⟩)
      go_ret
      exact ⟨rfl, hb1⟩
  · have HE := Lib.hid hE
    clear hE
    have z1 : (500 : Int) < (s.size : Int) := by omega
    go_enter Tryd.func4, Tryd.ntmps4
    go_wp2_with (go_at_call 10; refine (shown_any _ HE.out).mono ?_; rintro e w1 ⟨rfl, hb1⟩)
    go_ret
    exact ⟨rfl, hb1⟩
end Go.Proofs.YtahmadelokofbaaDoor
