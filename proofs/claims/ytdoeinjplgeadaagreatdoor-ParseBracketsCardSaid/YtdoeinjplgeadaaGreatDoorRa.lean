/- PROVED here: the contract of told, where it tells yes. No condition but those in each theorem's own head. -/
import Derived.Test.YtdoeinjplgeadaaGreatDoorQp
namespace Go.Proofs.YtdoeinjplgeadaaGreatDoor
open Go Go.RowKit
open Tr (Bx heap1 bt gen_world ret_int ret_bool cell_same)

set_option maxRecDepth 100000 in
set_option maxHeartbeats 1500000 in
theorem told_zero {w : World} (A : Option Addr) (n c : Nat) (er : Int) (h : er = 0 ∨ er = 8) : Calls Tryz.prog 20 #[.slice A n c, .int .i64 0, .int .i64 er] w (VPost (.bool true) w) := by
  rcases h with rfl | rfl
  · go_enter Tryz.func20, Tryz.ntmps20
    go_wp2
    go_ret
    exact ⟨rfl, Below.refl _ _⟩
  · go_enter Tryz.func20, Tryz.ntmps20
    go_wp2
    go_ret
    exact ⟨rfl, Below.refl _ _⟩
set_option maxRecDepth 100000 in
set_option maxHeartbeats 1500000 in
theorem told_tok {w : World} (A : Option Addr) (c : Nat) (ts : List Tok) (p : Nat) (er : Int) (hT : Toks w A ts) (hl : ts.length ≤ 100000) (h0 : er ≠ 0) (h8 : er ≠ 8) (h : (∃ t ∈ ts, t.p = p) ∨ (er = 6 ∧ p = 0)) : Calls Tryz.prog 20 #[.slice A ts.length c, .int .i64 (p : Int), .int .i64 er] w (VPost (.bool true) w) := by
  have d0 : (er == 0) = false := by rw [beq_eq_false_iff_ne]; exact h0
  have d8 : (er == 8) = false := by rw [beq_eq_false_iff_ne]; exact h8
  have HT := Lib.hid hT
  have HH := Lib.hid h
  obtain ⟨n, hn⟩ : ∃ n, n = ts.length := ⟨_, rfl⟩
  have HN := Lib.hid hn
  rw [← hn] at hl ⊢
  clear hT h h0 h8 hn
  go_enter Tryz.func20, Tryz.ntmps20
  go_wp2
  go_loopg [7] n (fun gk a7 wr => ∃ i : Nat, a7 = .int .i64 (i : Int) ∧ i ≤ n ∧ gk = n - i ∧ wr = w ∧ ∀ j (hj : j < ts.length), j < i → ts[j].p ≠ p)
  case atStart => exact ⟨0, rfl, Nat.zero_le _, rfl, rfl, fun j _ hj => absurd hj (Nat.not_lt_zero j)⟩
  case round =>
    obtain ⟨i, rfl, hi, rfl, rfl, hno⟩ := hrel
    by_cases hlt : i < n
    · have hlz : (i : Int) < (n : Int) := by omega
      have hit : i < ts.length := by rw [← HN.out]; exact hlt
      obtain ⟨b, off, rfl, hbl, hc⟩ := HT.out (by omega)
      have c2 : wr.cell? ⟨b, off + i * 4 + 2, none⟩ = some (.int .i64 (ts[i].p : Int)) := hc i hit 2 (by decide)
      have HG := Lib.hid (And.intro hno (And.intro hi hit))
      obtain ⟨tp, htp⟩ : ∃ tp, tp = ts[i].p := ⟨_, rfl⟩
      rw [← htp] at c2
      have HP := Lib.hid htp
      clear hc hno hi htp
      by_cases q : tp = p
      · have dq : ((tp : Int) == (p : Int)) = true := by rw [q]; simp
        clear q
        go_wp2
        go_ret
        exact ⟨rfl, Below.refl _ _⟩
      · have dq : ((tp : Int) == (p : Int)) = false := by rw [beq_eq_false_iff_ne]; omega
        have HQ := Lib.hid q
        clear q
        go_wp2
        go_roundg (n - (i + 1))
        case measure => go_light; omega
        case rel =>
          go_light
          refine ⟨i + 1, by go_num, by omega, rfl, rfl, fun j hj hji => ?_⟩
          by_cases e : j = i
          · subst e; rw [← HP.out]; exact HQ.out
          · exact HG.out.1 j hj (by omega)
    · have hlz : ¬ (i : Int) < (n : Int) := by omega
      have h6 : er = 6 ∧ p = 0 := by
        rcases HH.out with ⟨t, ht, hp⟩ | h6
        · obtain ⟨j, hj, rfl⟩ := List.getElem_of_mem ht
          exact absurd hp (hno j hj (by have := HN.out; omega))
        · exact h6
      obtain ⟨rfl, rfl⟩ := h6
      clear hno hi hlt
      go_wp2
      go_ret
      exact ⟨rfl, Below.refl _ _⟩
end Go.Proofs.YtdoeinjplgeadaaGreatDoor
