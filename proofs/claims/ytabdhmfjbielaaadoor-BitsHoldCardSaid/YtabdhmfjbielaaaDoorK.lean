/- PROVED here: contracts of sameInts and runEnd. No condition but those in each theorem's own head. -/
import Derived.Test.YtabdhmfjbielaaaDoorJ
namespace Go.Proofs.YtabdhmfjbielaaaDoor
open Go Go.RowKit

/-- a slice that the call owns reads as its list -/
theorem Ints.of_own {w : World} {base c n : Nat} {A : Option Addr} {l : List Int} (h : w.ownsRow base 3 1 (.slice A n c) l.length (l.map (Value.int .i64))) : Ints w A l := fun h0 => by
  rcases h.2 with ⟨_, e⟩ | ⟨g, cap, cur, hv, _, hg, hn, _, _, ht⟩
  · omega
  · have hA : A = some ⟨g, 0, none⟩ := by injection hv
    have hlt : g < w.heap.size := (Array.getElem?_eq_some_iff.1 hg).1
    refine ⟨g, 0, hA, hlt, fun j hj => ?_⟩
    rw [Nat.zero_add, cell_of_row w g j cur 3 (0, 0) hg]
    have h2 : (cur.toList.take (l.length * 1))[j]? = some (.int .i64 (l.getD j 0)) := by
      rw [ht]; simp [hj]
    rw [List.getElem?_take] at h2
    rw [if_pos (by omega)] at h2
    simpa using h2
theorem own_slice {w : World} {base : Nat} {v : Value} {l : List Int} (h : w.ownsRow base 3 1 v l.length (l.map (Value.int .i64))) : ∃ A c, v = .slice A l.length c ∧ Ints w A l := by
  rcases h.2 with ⟨rfl, e⟩ | ⟨g, cap, cur, rfl, _⟩
  · exact ⟨none, 0, by rw [e], fun h0 => by omega⟩
  · exact ⟨_, _, rfl, Ints.of_own h⟩

/-- are two lists the same -/
def eqL (a b : List Int) : Bool := decide (a = b)
theorem eq_of_take {a b : List Int} (hl : a.length = b.length) {k : Nat} (h : a.take k = b.take k) (hk : a.length ≤ k) : a = b := by
  rw [List.take_of_length_le hk, List.take_of_length_le (by omega)] at h; exact h
theorem take_next {a b : List Int} (hl : a.length = b.length) {k : Nat} (hk : k < a.length) (h : a.take k = b.take k) (he : a.getD k 0 = b.getD k 0) : a.take (k + 1) = b.take (k + 1) := by
  have hk2 : k < b.length := by omega
  rw [List.take_succ_eq_append_getElem hk, List.take_succ_eq_append_getElem hk2, h]
  simp [hk, hk2] at he
  rw [he]

set_option maxRecDepth 100000 in
set_option maxHeartbeats 2000000 in
theorem sameInts (A B : Option Addr) (ca cb : Nat) (a b : List Int) (w : World) (hla : a.length ≤ 4611686018427387904) (hlb : b.length ≤ 4611686018427387904) (hA : Ints w A a) (hB : Ints w B b) :
    Calls Tryd.prog 36 #[.slice A a.length ca, .slice B b.length cb] w fun e w' => e = .returned (.bool (eqL a b)) ∧ ∃ n, w' = w.drewN n := by
  by_cases hl : a.length = b.length
  · have HL := Lib.hid hl
    have HA := Lib.hid hA
    have HB := Lib.hid hB
    have hd : ((a.length : Int) != (b.length : Int)) = false := by simp; omega
    clear hA hB hl
    go_enter Tryd.func36, Tryd.ntmps36
    go_wp2
    clear hd
    go_loopw [5] (fun i wr => ∃ k : Nat, k ≤ a.length ∧ i = .int .i64 k ∧ Hid (a.take k = b.take k) ∧ ∃ n, wr = w.drewN n) (fun i _ => a.length - (intOf i).toNat)
    case atStart => exact ⟨0, by omega, rfl, Lib.hid rfl, 0, rfl⟩
    case round =>
      obtain ⟨k, hk, rfl, HE, n, rfl⟩ := hrel
      by_cases hlt : k < a.length
      · have hltz : (k : Int) < (a.length : Int) := by omega
        have hltb : k < b.length := by have := HL.out; omega
        have hltzb : (k : Int) < (b.length : Int) := by omega
        obtain ⟨ba, oa, rfl, hba, hca⟩ := HA.out (by omega)
        obtain ⟨bb, ob, rfl, hbb, hcb⟩ := HB.out (by omega)
        have ga := hca k hlt
        have gb := hcb k hltb
        clear hca hcb
        by_cases he : a.getD k 0 = b.getD k 0
        · have HN := Lib.hid (take_next HL.out hlt HE.out he)
          rw [← he] at gb
          clear he
          generalize a.getD k 0 = x at *
          go_wp2
          go_quiet (fail)
          go_wp2
          go_roundw
          case rel => exact ⟨k + 1, by omega, by go_num, HN, n + nq, rfl⟩
          case measure => simp [intOf]; omega
        · have hne : eqL a b = false := by
            unfold eqL; rw [decide_eq_false]; intro e; rw [e] at he; exact he rfl
          have HNE := Lib.hid hne
          clear hne
          generalize a.getD k 0 = x at *
          generalize b.getD k 0 = y at *
          have hq : (x != y) = true := by simpa using he
          clear he
          go_wp2
          go_quiet (fail)
          go_wp2
          go_ret
          exact ⟨ret_bool HNE.out.symm, n + nq, by rw [World.drewN_drewN]⟩
      · have hltz : ¬ (k : Int) < (a.length : Int) := by omega
        have hne : eqL a b = true := by unfold eqL; rw [decide_eq_true]; exact eq_of_take HL.out HE.out (by omega)
        have HNE := Lib.hid hne
        clear hne
        go_wp2
        go_ret
        exact ⟨ret_bool HNE.out.symm, n, rfl⟩
  · have hd : ((a.length : Int) != (b.length : Int)) = true := by simp; omega
    have hne : eqL a b = false := by
      unfold eqL; rw [decide_eq_false]; intro e; rw [e] at hl; exact hl rfl
    rw [hne]
    clear hne hA hB hl
    go_enter Tryd.func36, Tryd.ntmps36
    go_wp2
    go_ret
    exact ⟨rfl, 0, rfl⟩

/-- the last one of consecutive elements -/
def reF (s k : Nat) : Nat := ((List.range 4096).find? fun m => decide (k ≤ m) && !s.testBit (m + 1)).getD 0
theorem reF_eq {s k m : Nat} (h1 : k ≤ m) (h2 : m < 4096) (h3 : s.testBit (m + 1) = false) (h4 : ∀ j, k ≤ j → j < m → s.testBit (j + 1) = true) : reF s k = m := by
  unfold reF
  have : (List.range 4096).find? (fun m => decide (k ≤ m) && !s.testBit (m + 1)) = some m := by
    rw [List.find?_range_eq_some]
    refine ⟨by simp [h1, h3], by simpa using h2, fun j hj => ?_⟩
    by_cases h : k ≤ j
    · simp [h4 j h hj]
    · simp [h]
  rw [this]; rfl
set_option maxRecDepth 100000 in
set_option maxHeartbeats 2000000 in
theorem runEnd_core (s k r : Nat) (H : Hid (reF s k = r)) (hs : Hid (Small s)) (hk : k < 4096) (w : World) : Calls Tryd.prog 40 #[.agg (ofF (wd s)), .int .i64 (k : Int)] w fun e w' => e = .returned (.int .i64 (r : Int)) ∧ Below w.heap.size w w' := by
  go_enter Tryd.func40, Tryd.ntmps40
  go_upto_region 1 with fail
  refine gen_world (fun w1 => Below w.heap.size w w1 ∧ w1.heap.size = w.heap.size + 1 ∧ Blk w1 w.heap.size (ofF (wd s))) ⟨heap1 w _, by simp, heap_alloc_new w _⟩ ?_
  rintro w1 ⟨hb, hz, h1⟩
  go_wp2_with fail
  go_loopw [5] (fun i wr => ∃ m : Nat, k ≤ m ∧ m < 4096 ∧ i = .int .i64 m ∧ Hid (∀ j, k ≤ j → j < m → s.testBit (j + 1) = true) ∧ Below w.heap.size w wr ∧ w.heap.size < wr.heap.size ∧ Blk wr w.heap.size (ofF (wd s))) (fun i _ => 4096 - (intOf i).toNat)
  case atStart => exact ⟨k, Nat.le_refl _, hk, rfl, Lib.hid (fun j h1 h2 => by omega), hb, by omega, h1⟩
  case round =>
    clear hb hz h1
    obtain ⟨m, hkm, hm, rfl, HE, hb, hz, h1⟩ := hrel
    cases hbit : hasI s ((m : Int) + 1) with
    | true =>
      have hc := fun w => Has s ((m : Int) + 1) w
      rw [hbit] at hc
      have HC := Lib.hid hc
      have hb1 : m + 1 < 4096 ∧ s.testBit (m + 1) = true := by
        unfold hasI at hbit
        rw [Bool.and_eq_true, decide_eq_true_eq] at hbit
        have e : ((m : Int) + 1).toNat = m + 1 := by omega
        rw [e] at hbit
        exact ⟨by omega, hbit.2⟩
      obtain ⟨hm1, hb2⟩ := hb1
      have HB2 := Lib.hid hb2
      clear hc hbit hb2
      go_wp2_with (first
        | ((with_reducible apply load_lit); (exact rfl); assumption)
        | (go_at_call 17; refine (HC.out _).mono ?_; rintro e w2 ⟨rfl, hb2⟩))
      go_roundw
      case rel => exact ⟨m + 1, by omega, hm1, by go_num, Lib.hid (fun j h1 h2 => by
        by_cases e : j = m
        · subst e; exact HB2.out
        · exact HE.out j h1 (by omega)), hb.trans (hb2.mono hb.size), by have := hb2.size; omega, (hb2.block _ hz).trans h1⟩
      case measure => simp [intOf]; omega
    | false =>
      have hc := fun w => Has s ((m : Int) + 1) w
      rw [hbit] at hc
      have HC := Lib.hid hc
      have hr : m = r := by
        rw [← H.out]
        refine (reF_eq hkm hm ?_ HE.out).symm
        unfold hasI at hbit
        by_cases h : m + 1 < 4096
        · have e : ((m : Int) + 1).toNat = m + 1 := by omega
          rw [e, decide_eq_true (by omega), Bool.true_and] at hbit
          exact hbit
        · exact hs.out _ (by omega)
      subst hr
      clear hc hbit
      go_wp2_with (first
        | ((with_reducible apply load_lit); (exact rfl); assumption)
        | (go_at_call 17; refine (HC.out _).mono ?_; rintro e w2 ⟨rfl, hb2⟩))
      go_ret
      exact ⟨rfl, hb.trans (hb2.mono hb.size)⟩
theorem runEnd (s k : Nat) (hs : Small s) (hk : k < 4096) (w : World) : Calls Tryd.prog 40 #[.agg (ofF (wd s)), .int .i64 (k : Int)] w fun e w' => e = .returned (.int .i64 (reF s k : Int)) ∧ Below w.heap.size w w' :=
  runEnd_core s k _ (Lib.hid rfl) (Lib.hid hs) hk w
end Go.Proofs.YtabdhmfjbielaaaDoor
