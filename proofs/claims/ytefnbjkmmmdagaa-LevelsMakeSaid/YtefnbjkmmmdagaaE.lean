/- PROVED here: the contract of closeOver. No condition but those in each theorem's own head. -/
import Derived.Test.YtefnbjkmmmdagaaM
import Derived.RegionTactic
import Derived.BigRegion
namespace Go.Proofs.Ytefnbjkmmmdagaa
open Go Go.RowKit

theorem and_nat (a b : Nat) (ha : a < 65536) (hb : b < 65536) : bits .and .u32 (a : Int) (b : Int) = ((a &&& b : Nat) : Int) := u32_and_nat a b (by omega) (by omega)
theorem or_nat (a b : Nat) (ha : a < 65536) (hb : b < 65536) : bits .or .u32 (a : Int) (b : Int) = ((a ||| b : Nat) : Int) := u32_or_nat a b (by omega) (by omega)
theorem pow_lt16 {k : Nat} (h : k < 16) : 2 ^ k < 65536 := by
  have : (2 : Nat) ^ k < 2 ^ 16 := Nat.pow_lt_pow_right (by omega) h
  simpa using this
theorem Fit.lt16 {n : Nat} {m : Nat → Nat} (h : Fit n m) (hn : n ≤ 16) {a : Nat} (ha : a < n) : m a < 65536 := by
  have h1 := h.lt ha
  have : (2 : Nat) ^ n ≤ 2 ^ 16 := Nat.pow_le_pow_right (by omega) hn
  simp at this; omega
theorem and_pow (x k : Nat) : ((x &&& 2 ^ k : Nat) != 0) = x.testBit k := by
  cases h : x.testBit k with
  | false =>
    have : x &&& 2 ^ k = 0 := by
      apply Nat.eq_of_testBit_eq; intro j
      rw [Nat.testBit_and, Nat.testBit_two_pow, Nat.zero_testBit]
      by_cases e : k = j
      · subst e; simp [h]
      · simp [e]
    rw [this]; rfl
  | true =>
    rw [bne_iff_ne]
    intro e
    have := congrArg (·.testBit k) e
    simp [h] at this
theorem test_nat {x k : Nat} (hx : x < 65536) (hk : k < 16) : (bits .and .u32 (x : Int) ((2 ^ k : Nat) : Int) != 0) = x.testBit k := by
  rw [and_nat _ _ hx (pow_lt16 hk), ← and_pow, Bool.eq_iff_iff]; simp
theorem quiet_left {P : Program} {f : FuncId} {args : Array Value} {w : World} {n : Nat} {v : Value}
    (h : Calls P f args (w.drewN n) fun e w' => e = .returned v ∧ w.drewN n = w') : Calls P f args (w.drewN n) fun e w'' => e = .returned v ∧ ∃ m, w'' = w.drewN m :=
  h.mono fun _ _ ⟨he, hm⟩ => ⟨he, n, hm.symm⟩
theorem grown_set {w w' : World} {g i : Nat} (h : w.grownBy w' (some g)) (u : Value) : w.grownBy (w'.setCell ⟨g, i, none⟩ u) (some g) :=
  ⟨h.os, h.tape, h.output, by simpa using h.size, fun k hk hne => (heap_setCell_other w' ⟨g, i, none⟩ k u (fun e => hne (by rw [e]))).trans (h.block k hk hne)⟩
theorem grown_drewN {w w' : World} {row : Option Nat} (h : w.grownBy w' row) (n : Nat) : w.grownBy (w'.drewN n) row := ⟨h.os, h.tape, h.output, h.size, h.block⟩
theorem grown_drew {w w' : World} {row : Option Nat} (h : w.grownBy w' row) : w.grownBy w'.drew row := ⟨h.os, h.tape, h.output, h.size, h.block⟩
/-- a row of masks in the middle of a round -/
def midC (k a : Nat) (m : Nat → Nat) (i : Nat) : Nat := if i < a then stepC k m i else m i
theorem midC_at (k a : Nat) (m : Nat → Nat) : midC k a m a = m a := by unfold midC; rw [if_neg (by omega)]
theorem midC_k (k a : Nat) (m : Nat → Nat) : midC k a m k = m k := by
  unfold midC; split
  · exact step_self k m
  · rfl
theorem midC_step (k a : Nat) (m : Nat → Nat) (i : Nat) : midC k (a + 1) m i = if i = a then stepC k m a else midC k a m i := by
  unfold midC
  by_cases e : i = a
  · subst e; simp
  · rw [if_neg e]
    by_cases h : i < a
    · rw [if_pos h, if_pos (by omega)]
    · rw [if_neg h, if_neg (by omega)]

set_option maxRecDepth 100000 in
set_option maxHeartbeats 8000000 in
theorem close_any (g n : Nat) (m : Nat → Nat) (hn : n ≤ 16) (hf : Fit n m) (w : World) (hm : Mb w g n m) :
    Calls Try.prog 37 #[.slice (some ⟨g, 0, none⟩) n n] w fun e w' => e = .returned (.tuple #[]) ∧ Mb w' g n (cloK m n) ∧ w.grownBy w' (some g) := by
  have HF := Lib.hid (fun k hk => hf.clo k hk)
  have HM := Lib.hid hm
  clear hf hm
  go_enter Try.func37, Try.ntmps37
  go_wp2
  go_loopw [6] (fun i wr => ∃ k : Nat, k ≤ n ∧ i = .int .i64 (k : Int) ∧ Mb wr g n (cloK m k) ∧ w.grownBy wr (some g)) (fun i _ => n - (intOf i).toNat)
  case atStart => exact ⟨0, by omega, rfl, HM.out, ⟨rfl, rfl, rfl, Nat.le_refl _, fun _ _ _ => rfl⟩⟩
  case round =>
    obtain ⟨k, hk, rfl, hM, hg⟩ := hrel
    by_cases hlt : k < n
    · have hlz : (k : Int) < (n : Int) := by omega
      have hfit := HF.out k (by omega)
      have HK : Hid (cloK m (k + 1) = stepC k (cloK m k)) := Lib.hid rfl
      generalize cloK m k = M at *
      have HFM := Lib.hid hfit
      clear hfit
      have hM0 : Mb wr g n (midC k 0 M) := hM.congr (fun i _ => by unfold midC; rw [if_neg (by omega)])
      go_wp2_with fail
      go_loopw [11] (fun i ws => ∃ a : Nat, a ≤ n ∧ i = .int .i64 (a : Int) ∧ Mb ws g n (midC k a M) ∧ w.grownBy ws (some g)) (fun i _ => n - (intOf i).toNat)
      case atStart => exact ⟨0, by omega, rfl, hM0, hg⟩
      case round =>
        clear hM0 hM hg
        obtain ⟨a, ha, rfl, hM, hg⟩ := hrel
        by_cases hla : a < n
        · have hlaz : (a : Int) < (n : Int) := by omega
          have hca := hM.cell hla
          have hck := hM.cell hlt
          have hfa := hM.frozen a
          rw [midC_at] at hca
          rw [midC_k] at hck
          have hxa := HFM.out.lt16 hn hla
          have hxk := HFM.out.lt16 hn hlt
          have ht := test_nat hxa (k := k) (by omega)
          have HB := Lib.hid (fun w => bit_any k (by omega) w)
          have HS := Lib.hid (show stepC k M a = if (M a).testBit k then M a ||| M k else M a from rfl)
          have HO := Lib.hid (or_nat (M a) (M k) hxa hxk)
          generalize (2 ^ k : Nat) = p at *
          generalize hXa : M a = xa at *
          generalize M k = xk at *
          have HXa := Lib.hid hXa
          clear hXa
          cases hb : xa.testBit k with
          | true =>
            rw [hb] at ht HS
            have HS' := Lib.hid (HS.out.trans (if_pos rfl))
            clear hb HS
            go_wp2_with fail
            go_quiet ((go_at_call 36; exact quiet_left (HB.out _)))
            go_wp2_with fail
            go_region
            all_goals
              go_wp2
              go_roundw
              case rel =>
                refine ⟨a + 1, by omega, by go_num, ?_, ?_⟩
                · rw [HO.out]
                  exact ((hM.drewN (nq + 1)).set_ a (xa ||| xk)).congr (fun i _ => by
                    rw [midC_step, HS'.out])
                · exact grown_set (grown_drewN hg _) _
              case measure => simp [intOf]; omega
          | false =>
            rw [hb] at ht HS
            have HS' := Lib.hid (HS.out.trans (if_neg (by decide)))
            clear hb HS
            go_wp2_with fail
            go_quiet ((go_at_call 36; exact quiet_left (HB.out _)))
            go_wp2
            go_roundw
            case rel => exact ⟨a + 1, by omega, by go_num, (hM.drewN nq).congr (fun i _ => by
              rw [midC_step]
              by_cases e : i = a
              · rw [if_pos e, HS'.out, e, midC_at, HXa.out]
              · rw [if_neg e]), grown_drewN hg _⟩
            case measure => simp [intOf]; omega
        · have hlaz : ¬ (a : Int) < (n : Int) := by omega
          go_wp2
          go_roundw
          case rel => exact ⟨k + 1, by omega, by go_num, hM.congr (fun i hi => by unfold midC; rw [if_pos (by omega), HK.out]), hg⟩
          case measure => simp [intOf]; omega
    · have hlz : ¬ (k : Int) < (n : Int) := by omega
      obtain rfl : k = n := by omega
      go_wp2
      go_end0
      exact ⟨rfl, hM, hg⟩
end Go.Proofs.Ytefnbjkmmmdagaa
