/- PROVED here: the contract of small. No condition but those in each theorem's own head. -/
import Derived.Test.YtcnmkmdedeiffaaM
namespace Go.Proofs.Ytcnmkmdedeiffaa
open Go Go.RowKit

def OkN (x : Nd) : Prop := x.ks.length ≤ 200 ∧ x.tx.size ≤ 200
def OkT (t : Tr) : Prop := t.1.length ≤ 200 ∧ ∀ x ∈ t.1, OkN x
def SmPost (ts : List Tr) (w : World) (e : Ending) (w' : World) : Prop := Below w.heap.size w w' ∧ ∃ b, e = .returned (.bool b) ∧ (b = true → ts.length ≤ 30 ∧ ∀ t ∈ ts, OkT t)
theorem sm_no {ts : List Tr} {w : World} : SmPost ts w (.returned (.bool false)) w := ⟨Below.refl _ _, false, rfl, fun h => by cases h⟩
set_option maxRecDepth 100000 in
set_option maxHeartbeats 1500000 in
theorem small_any (A : Option Addr) (m c : Nat) (ts : List Tr) (w : World) (hT : Trs w A ts) (hm : m = ts.length) : Calls Try.prog 9 #[.slice A m c] w (SmPost ts w) := by
  have HT := Lib.hid hT
  have HM := Lib.hid hm
  clear hT hm
  by_cases h30 : (30 : Int) < (m : Int)
  · go_enter Try.func9, Try.ntmps9
    go_wp2
    go_ret
    exact sm_no
  · go_enter Try.func9, Try.ntmps9
    go_wp2
    go_loop [3] (fun i => ∃ j : Nat, j ≤ m ∧ i = .int .i64 (j : Int) ∧ ∀ t ∈ ts.take j, OkT t) (fun i => m - (intOf i).toNat)
    case atStart => exact ⟨0, Nat.zero_le _, rfl, fun t ht => by simp at ht⟩
    case round =>
      obtain ⟨j, hj, rfl, hok⟩ := hrel
      have HOK := Lib.hid hok
      clear hok
      by_cases hlt : j < m
      · have hlz : (j : Int) < (m : Int) := by omega
        have hjt : j < ts.length := by rw [← HM.out]; exact hlt
        obtain ⟨bA, off, rfl, hbl, hc⟩ := HT.out (by omega)
        obtain ⟨K, ck, d0, d1, hN, hck⟩ := hc j hjt
        have HTT := Lib.hid (show ts.take (j + 1) = ts.take j ++ [ts[j]] from List.take_succ_eq_append_getElem hjt)
        clear hc hck d1
        generalize ts[j] = t at *
        obtain ⟨tn, tr⟩ := t
        dsimp only at d0 hN
        obtain ⟨n, hn⟩ : ∃ n, n = tn.length := ⟨_, rfl⟩
        have HN := Lib.hid hn
        rw [← hn] at d0
        have HNN := Lib.hid hN
        clear hn hN
        by_cases h200 : (200 : Int) < (n : Int)
        · go_wp2
          go_ret
          exact sm_no
        · go_wp2
          go_loop [4] (fun i => ∃ k : Nat, k ≤ n ∧ i = .int .i64 (k : Int) ∧ ∀ x ∈ tn.take k, OkN x) (fun i => n - (intOf i).toNat)
          case atStart => exact ⟨0, Nat.zero_le _, rfl, fun t ht => by simp at ht⟩
          case round =>
            obtain ⟨k, hk, rfl, hok2⟩ := hrel
            have HOK2 := Lib.hid hok2
            clear hok2
            by_cases hkl : k < n
            · have hkz : (k : Int) < (n : Int) := by omega
              have hkt : k < tn.length := by rw [← HN.out]; exact hkl
              obtain ⟨bN, oN, rfl, hbN, hcN⟩ := HNN.out (by omega)
              obtain ⟨K2, c2, _, _, _, c3, c4, _⟩ := hcN k hkt
              have HXX := Lib.hid (show tn.take (k + 1) = tn.take k ++ [tn[k]] from List.take_succ_eq_append_getElem hkt)
              clear hcN
              generalize tn[k] = x at *
              obtain ⟨kd, nn, pl, tx, ks⟩ := x
              dsimp only at c3 c4
              generalize hq : ks.length = q at *
              have HQ := Lib.hid hq
              clear hq
              by_cases h1 : (200 : Int) < (q : Int)
              · have hd1 : decide ((200 : Int) < (q : Int)) = true := decide_eq_true h1
                go_wp2
                go_ret
                exact sm_no
              · have hd1 : decide ((200 : Int) < (q : Int)) = false := decide_eq_false h1
                by_cases h2 : (200 : Int) < (tx.size : Int)
                · have hd2 : decide ((200 : Int) < (tx.size : Int)) = true := decide_eq_true h2
                  go_wp2
                  go_ret
                  exact sm_no
                · have hd2 : decide ((200 : Int) < (tx.size : Int)) = false := decide_eq_false h2
                  go_wp2
                  go_round
                  case rel =>
                    refine ⟨k + 1, by omega, by go_num, ?_⟩
                    rw [HXX.out]
                    intro x hx
                    rcases List.mem_append.1 hx with hx | hx
                    · exact HOK2.out x hx
                    · simp at hx; subst hx; exact ⟨by show ks.length ≤ 200; rw [HQ.out]; omega, by show tx.size ≤ 200; omega⟩
                  case measure => simp [intOf]; omega
            · obtain rfl : k = n := by omega
              have hkz : ¬ (k : Int) < (k : Int) := by omega
              go_wp2
              go_round
              case rel =>
                refine ⟨j + 1, by omega, by go_num, ?_⟩
                rw [HTT.out]
                intro t ht
                rcases List.mem_append.1 ht with ht | ht
                · exact HOK.out t ht
                · simp at ht; subst ht
                  have h5 := HOK2.out
                  rw [List.take_of_length_le (by rw [← HN.out]; omega)] at h5
                  exact ⟨by show tn.length ≤ 200; rw [← HN.out]; omega, h5⟩
              case measure => simp [intOf]; omega
      · obtain rfl : j = m := by omega
        have hlz : ¬ (j : Int) < (j : Int) := by omega
        go_wp2
        go_ret
        refine ⟨Below.refl _ _, true, rfl, fun _ => ⟨by rw [← HM.out]; omega, ?_⟩⟩
        have h5 := HOK.out
        rw [List.take_of_length_le (by rw [← HM.out]; omega)] at h5
        exact h5
end Go.Proofs.Ytcnmkmdedeiffaa
