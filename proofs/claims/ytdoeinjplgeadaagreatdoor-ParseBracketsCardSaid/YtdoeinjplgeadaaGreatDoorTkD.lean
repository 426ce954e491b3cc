/- PROVED here: contracts of isSpace, isComment, isDigit, isWordByte, and of the document's digit and part; contracts of isWordByte, and of the document's digit and part; contracts of Kept and isSign; the contract of Ident. No condition but those in each theorem's own head. -/
import Derived.Test.YtdoeinjplgeadaaGreatDoorProg
import Derived.Tactics
import Derived.Tactics2
import Derived.WalkKit
import Derived.IntWalk
import Derived.KernelRfl
import Derived.Lib.Hide
import Derived.Below
import Derived.Deep.Draws
import Derived.Deep.QuietTactic
import Derived.BigQuiet
import Derived.StillTailTactics
import Derived.Deep.DeepCutAuto
import Derived.Laws.OwnMore
import Derived.Laws.Rows
import Derived.OrdersHeld
import Derived.Deep.RegionWith
import Derived.Maps.AppendAt
namespace Go.Proofs.YtdoeinjplgeadaaGreatDoor.Tk
section
open Go Go.RowKit

theorem ret_int {k : IntKind} {a b : Int} (h : a = b) : Ending.returned (.int k a) = .returned (.int k b) := by rw [h]
theorem ret_bool {a b : Bool} (h : a = b) : Ending.returned (.bool a) = .returned (.bool b) := by rw [h]
theorem gen_world {P : Program} {c : Code} {Q : Exit → Act → World → Prop} {a : Act} {w : World} (R : World → Prop) (h : R w) (k : ∀ w', R w' → Code.wp P c Q a w') : Code.wp P c Q a w := k w h
theorem heap1 (w : World) (A : Obj) : Below w.heap.size w (w.alloc A) := (Below.refl _ _).alloc (Nat.le_refl _) _
theorem bt {a b c : World} (h : Below a.heap.size a b) (k : Below b.heap.size b c) : Below a.heap.size a c := h.trans (k.mono h.size)
theorem below_drewN {B : Nat} {a w : World} (h : Below B a w) (n : Nat) : Below B a (w.drewN n) := ⟨h.os, h.tape, h.output, h.size, h.block⟩

def spB (c : UInt8) : Bool := c.toNat == 32 || c.toNat == 9 || c.toNat == 10
def cmB (c : UInt8) : Bool := c.toNat == 35
def dgB (c : UInt8) : Bool := decide (48 ≤ c.toNat) && decide (c.toNat ≤ 57)
def wdB (c : UInt8) : Bool := decide (97 ≤ c.toNat) && decide (c.toNat ≤ 122) || decide (65 ≤ c.toNat) && decide (c.toNat ≤ 90) || dgB c || c.toNat == 95

theorem space_any (c : UInt8) (w : World) : Calls Tryz.prog 29 #[.int .u8 (c.toNat : Int)] w fun e w' => e = .returned (.bool (spB c)) ∧ w = w' := by
  by_cases h1 : (c.toNat : Int) = 32
  · have hb : spB c = true := by unfold spB; simp; omega
    have q1 : ((c.toNat : Int) == 32) = true := by simpa using h1
    rw [hb]; clear hb h1
    go_enter Tryz.func29, Tryz.ntmps29
    go_wp2
    go_ret
    simp
  · have q1 : ((c.toNat : Int) == 32) = false := by simpa using h1
    by_cases h2 : (c.toNat : Int) = 9
    · have hb : spB c = true := by unfold spB; simp; omega
      have q2 : ((c.toNat : Int) == 9) = true := by simpa using h2
      rw [hb]; clear hb h1 h2
      go_enter Tryz.func29, Tryz.ntmps29
      go_wp2
      go_ret
      simp
    · have q2 : ((c.toNat : Int) == 9) = false := by simpa using h2
      have hb : spB c = ((c.toNat : Int) == 10) := by
        unfold spB; rw [Bool.eq_iff_iff]; simp; omega
      rw [hb]; clear hb h1 h2
      generalize hq : ((c.toNat : Int) == 10) = b at *
      go_enter Tryz.func29, Tryz.ntmps29
      go_wp2
      go_ret
      simp
theorem comment_any (c : UInt8) (w : World) : Calls Tryz.prog 30 #[.int .u8 (c.toNat : Int)] w fun e w' => e = .returned (.bool (cmB c)) ∧ w = w' := by
  have hb : cmB c = ((c.toNat : Int) == 35) := by unfold cmB; rw [Bool.eq_iff_iff]; simp; omega
  rw [hb]; clear hb
  generalize hq : ((c.toNat : Int) == 35) = b at *
  go_enter Tryz.func30, Tryz.ntmps30
  go_wp2
  go_ret
  simp
theorem digit_any (c : UInt8) (w : World) : Calls Tryz.prog 111 #[.int .u8 (c.toNat : Int)] w fun e w' => e = .returned (.bool (dgB c)) ∧ w = w' := by
  by_cases h1 : 48 ≤ (c.toNat : Int)
  · have q1 : decide (48 ≤ (c.toNat : Int)) = true := by simpa using h1
    have hb : dgB c = decide ((c.toNat : Int) ≤ 57) := by unfold dgB; rw [Bool.eq_iff_iff]; simp; omega
    rw [hb]; clear hb
    by_cases h2 : (c.toNat : Int) ≤ 57
    · rw [decide_eq_true h2]
      go_enter Tryz.func111, Tryz.ntmps111
      go_wp2
      go_ret
      simp
    · rw [decide_eq_false h2]
      go_enter Tryz.func111, Tryz.ntmps111
      go_wp2
      go_ret
      simp
  · have hb : dgB c = false := by unfold dgB; rw [decide_eq_false (by omega)]; rfl
    rw [hb]; clear hb
    go_enter Tryz.func111, Tryz.ntmps111
    go_wp2
    go_ret
    simp
end
section
open Go Go.RowKit

theorem five (c : UInt8) : (97 ≤ (c.toNat : Int) ∧ (c.toNat : Int) ≤ 122) ∨ 122 < (c.toNat : Int) ∨ (65 ≤ (c.toNat : Int) ∧ (c.toNat : Int) ≤ 90) ∨ (c.toNat : Int) < 65 ∨ (90 < (c.toNat : Int) ∧ (c.toNat : Int) < 97) := by omega
theorem word_any (c : UInt8) (w : World) : Calls Tryz.prog 108 #[.int .u8 (c.toNat : Int)] w fun e w' => e = .returned (.bool (wdB c)) ∧ w = w' := by
  rcases five c with h | h | h | h | h
  · have hb : wdB c = true := by unfold wdB dgB; simp; omega
    rw [hb]; clear hb
    obtain ⟨h1, h2⟩ := h
    go_enter Tryz.func108, Tryz.ntmps108
    go_wp2
    go_ret
    simp
  · have hb : wdB c = false := by unfold wdB dgB; simp; omega
    have hd : dgB c = false := by unfold dgB; simp; omega
    have q : ((c.toNat : Int) == 95) = false := by simp; omega
    rw [hb]; clear hb
    have h1 : 97 ≤ (c.toNat : Int) := by omega
    have h2 : ¬ (c.toNat : Int) ≤ 122 := by omega
    have h3 : 65 ≤ (c.toNat : Int) := by omega
    have h4 : ¬ (c.toNat : Int) ≤ 90 := by omega
    go_enter Tryz.func108, Tryz.ntmps108
    go_wp2_with (go_at_call 111; refine (digit_any _ _).mono ?_; rintro e w' ⟨rfl, rfl⟩)
    go_ret
    simp
  · have hb : wdB c = true := by unfold wdB dgB; simp; omega
    rw [hb]; clear hb
    obtain ⟨h3, h4⟩ := h
    have h1 : ¬ 97 ≤ (c.toNat : Int) := by omega
    go_enter Tryz.func108, Tryz.ntmps108
    go_wp2
    go_ret
    simp
  · have hb : wdB c = dgB c := by rw [Bool.eq_iff_iff]; unfold wdB dgB; simp; omega
    rw [hb]; clear hb
    have h1 : ¬ 97 ≤ (c.toNat : Int) := by omega
    have h3 : ¬ 65 ≤ (c.toNat : Int) := by omega
    have q : ((c.toNat : Int) == 95) = false := by simp; omega
    cases hd : dgB c
    · go_enter Tryz.func108, Tryz.ntmps108
      go_wp2_with (go_at_call 111; refine (digit_any _ _).mono ?_; rintro e w' ⟨rfl, rfl⟩)
      go_ret
      simp
    · go_enter Tryz.func108, Tryz.ntmps108
      go_wp2_with (go_at_call 111; refine (digit_any _ _).mono ?_; rintro e w' ⟨rfl, rfl⟩)
      go_ret
      simp
  · have hb : wdB c = ((c.toNat : Int) == 95) := by rw [Bool.eq_iff_iff]; unfold wdB dgB; simp; omega
    have hd : dgB c = false := by unfold dgB; simp; omega
    rw [hb]; clear hb
    have h1 : ¬ 97 ≤ (c.toNat : Int) := by omega
    have h3 : 65 ≤ (c.toNat : Int) := by omega
    have h4 : ¬ (c.toNat : Int) ≤ 90 := by omega
    generalize hq : ((c.toNat : Int) == 95) = b at *
    go_enter Tryz.func108, Tryz.ntmps108
    go_wp2_with (go_at_call 111; refine (digit_any _ _).mono ?_; rintro e w' ⟨rfl, rfl⟩)
    go_ret
    simp
end
section
open Go Go.RowKit

def keptB (l : List UInt8) : Bool := l == [118, 97, 114] || l == [112, 114, 111, 99] || l == [105, 110, 116] || l == [98, 111, 111, 108] || l == [97, 114, 114] || l == [102, 117, 110] || l == [105, 110] || l == [111, 117, 116] || l == [105, 102] || l == [101, 108, 115, 101] || l == [119, 104, 105, 108, 101] || l == [99, 97, 108, 108] || l == [114, 101, 116, 117, 114, 110] || l == [116, 104, 114, 111, 119] || l == [116, 114, 121] || l == [99, 97, 116, 99, 104] || l == [110, 101, 119] || l == [108, 101, 110] || l == [116, 114, 117, 101] || l == [102, 97, 108, 115, 101]
def signB (l : List UInt8) : Bool := l == [40] || l == [41] || l == [123] || l == [125] || l == [91] || l == [93] || l == [44] || l == [59] || l == [61] || l == [61, 61] || l == [33, 61] || l == [60] || l == [60, 61] || l == [62] || l == [62, 61] || l == [43] || l == [45] || l == [42] || l == [47] || l == [37] || l == [33] || l == [38, 38] || l == [124, 124] || l == [38]
set_option maxHeartbeats 2000000 in
theorem kept_any (s : ByteArray) (w : World) : Calls Tryz.prog 58 #[.string s] w fun e w' => e = .returned (.bool (keptB s.toList)) ∧ w = w' := by
  go_enter Tryz.func58, Tryz.ntmps58
  go_wp2
  all_goals
    first
    | (exfalso; simp_all only [Bool.false_eq_true]; done)
    | (go_ret; exact ⟨ret_bool (by simp only [keptB, *, Bool.true_or, Bool.or_true, Bool.or_self]), rfl⟩)
set_option maxHeartbeats 2000000 in
theorem sign_any (s : ByteArray) (w : World) : Calls Tryz.prog 60 #[.string s] w fun e w' => e = .returned (.bool (signB s.toList)) ∧ w = w' := by
  go_enter Tryz.func60, Tryz.ntmps60
  go_wp2
  all_goals
    first
    | (exfalso; simp_all only [Bool.false_eq_true]; done)
    | (go_ret; exact ⟨ret_bool (by simp only [signB, *, Bool.true_or, Bool.or_true, Bool.or_self]), rfl⟩)
end
section
open Go Go.RowKit

theorem kept_l (s : ByteArray) (w : World) : Calls Tryz.prog 58 #[.string s] w fun e w' => e = .returned (.bool (keptB s.data.toList)) ∧ w = w' := by
  rw [← ByteArray.toList_eq]; exact kept_any s w
theorem sign_l (s : ByteArray) (w : World) : Calls Tryz.prog 60 #[.string s] w fun e w' => e = .returned (.bool (signB s.data.toList)) ∧ w = w' := by
  rw [← ByteArray.toList_eq]; exact sign_any s w
theorem take_snoc (s : ByteArray) (k : Nat) (h : k < s.size) : s.data.toList.take (k + 1) = s.data.toList.take k ++ [s[k]] := by
  rw [List.take_succ_eq_append_getElem (by simpa using h)]; rfl
/-- is it a name -/
def allW (l : List UInt8) : Bool := l.all wdB
def idB (l : List UInt8) : Bool := decide (1 ≤ l.length) && decide (l.length ≤ 20) && !(dgB (l.headD 0)) && !(keptB l) && allW l
theorem allW_snoc {l l' : List UInt8} {c : UInt8} (e : l' = l ++ [c]) (h : allW l = true) (hc : wdB c = true) : allW l' = true := by
  subst e; unfold allW at *; rw [List.all_append, h]; simp [hc]
theorem head_get (s : ByteArray) (h : 0 < s.size) : s.data.toList.headD 0 = s[0] := by
  obtain ⟨⟨l⟩⟩ := s
  cases l with
  | nil => simp [ByteArray.size] at h
  | cons a l => rfl
theorem id_false_len {l : List UInt8} (h : l.length = 0 ∨ 20 < l.length) : idB l = false := by
  unfold idB
  rcases h with h | h
  · rw [decide_eq_false (by omega : ¬ 1 ≤ l.length)]; rfl
  · rw [decide_eq_false (by omega : ¬ l.length ≤ 20)]; simp
set_option maxHeartbeats 1000000 in
theorem ident_any (s : ByteArray) (w : World) (hmax : s.size ≤ 281474976710656) : Calls Tryz.prog 59 #[.string s] w fun e w' => e = .returned (.bool (idB s.data.toList)) ∧ w = w' := by
  have hlen : s.data.toList.length = s.size := by simp
  by_cases h0 : s.size = 0
  · rw [id_false_len (.inl (by omega))]
    have q0 : ((s.size : Int) == 0) = true := beq_iff_eq.2 (by omega)
    clear h0 hlen
    go_enter Tryz.func59, Tryz.ntmps59
    go_wp2
    go_ret
    simp
  · have q0 : ((s.size : Int) == 0) = false := beq_eq_false_iff_ne.2 (by omega)
    by_cases h1 : 20 < s.size
    · rw [id_false_len (.inr (by omega))]
      have q1 : (20 : Int) < (s.size : Int) := by omega
      clear h0 hlen
      go_enter Tryz.func59, Tryz.ntmps59
      go_wp2
      go_ret
      simp
    · have hp : 0 < s.size := by omega
      have hh := head_get s hp
      have q1 : ¬ (20 : Int) < (s.size : Int) := by omega
      cases hd : dgB s[0]
      · cases hk : keptB s.data.toList
        · have hE : idB s.data.toList = allW s.data.toList := by
            unfold idB
            rw [hh, hd, hk, decide_eq_true (by omega), decide_eq_true (by omega)]; simp
          rw [hE]
          clear hE hh
          have HL := Lib.hid hlen
          clear h0 hlen
          go_enter Tryz.func59, Tryz.ntmps59
          go_wp2_with (first | (go_at_call 111; refine (digit_any _ _).mono ?_; rintro e w' ⟨rfl, rfl⟩) | (go_at_call 58; refine (kept_l _ _).mono ?_; rintro e w' ⟨rfl, rfl⟩))
          go_loop [23] (fun i => ∃ k : Nat, k ≤ s.size ∧ i = .int .i64 k ∧ allW (s.data.toList.take k) = true) (fun i => s.size - (intOf i).toNat)
          case atStart => exact ⟨0, Nat.zero_le _, rfl, rfl⟩
          case round =>
            obtain ⟨k, hk, rfl, ha⟩ := hrel
            have HA := Lib.hid ha
            clear ha
            by_cases hlt : k < s.size
            · have hts := Lib.hid (take_snoc s k hlt)
              have hlz : (k : Int) < (s.size : Int) := by omega
              cases hw : wdB s[k]
              · go_wp2_with (go_at_call 108; refine (word_any _ _).mono ?_; rintro e w' ⟨rfl, rfl⟩)
                go_ret
                refine ⟨ret_bool ?_, rfl⟩
                symm
                unfold allW
                rw [List.all_eq_false]
                exact ⟨s[k], by simp [ByteArray.getElem_eq_getElem_data], by simp [hw]⟩
              · go_wp2_with (go_at_call 108; refine (word_any _ _).mono ?_; rintro e w' ⟨rfl, rfl⟩)
                go_round
                case rel => exact ⟨k + 1, by omega, by go_num, allW_snoc hts.out HA.out hw⟩
                case measure => simp [intOf]; omega
            · have hlz : ¬ (k : Int) < (s.size : Int) := by omega
              go_wp2
              go_ret
              refine ⟨ret_bool ?_, rfl⟩
              have := HA.out
              rw [List.take_of_length_le (by rw [HL.out]; omega)] at this
              exact this.symm
        · have hE : idB s.data.toList = false := by
            unfold idB; rw [hk]; simp
          rw [hE]; clear hE hh h0 hlen
          go_enter Tryz.func59, Tryz.ntmps59
          go_wp2_with (first | (go_at_call 111; refine (digit_any _ _).mono ?_; rintro e w' ⟨rfl, rfl⟩) | (go_at_call 58; refine (kept_l _ _).mono ?_; rintro e w' ⟨rfl, rfl⟩))
          go_ret
          simp
      · have hE : idB s.data.toList = false := by
          unfold idB; rw [hh, hd]; simp
        rw [hE]; clear hE hh h0 hlen
        go_enter Tryz.func59, Tryz.ntmps59
        go_wp2_with (first | (go_at_call 111; refine (digit_any _ _).mono ?_; rintro e w' ⟨rfl, rfl⟩) | (go_at_call 58; refine (kept_l _ _).mono ?_; rintro e w' ⟨rfl, rfl⟩))
        go_ret
        simp
end
end Go.Proofs.YtdoeinjplgeadaaGreatDoor.Tk
