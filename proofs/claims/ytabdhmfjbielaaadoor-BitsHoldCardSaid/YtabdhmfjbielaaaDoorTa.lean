/- PROVED here: the contract of the document's own Decimal. No condition but those in each theorem's own head. -/
import Derived.Test.YtabdhmfjbielaaaDoorJw
namespace Go.Proofs.YtabdhmfjbielaaaDoor
open Go Go.RowKit
/-- what the loop of Decimal knows -/
def DI (n m : Nat) (t : List UInt8) : Prop := (t = [] ∧ m = n) ∨ (t ≠ [] ∧ 0 < m ∧ Lib.decDigits m ++ t = Lib.decDigits n) ∨ (t ≠ [] ∧ m = 0 ∧ t = Lib.decDigits n)
theorem DI_step {n m : Nat} {t : List UInt8} (h : DI n m t) (hg : 0 < m ∨ t = []) : DI n (m / 10) (UInt8.ofNat (48 + m % 10) :: t) := by
  have key : Lib.decDigits m ++ t = Lib.decDigits n := by
    rcases h with ⟨rfl, rfl⟩ | ⟨_, _, h⟩ | ⟨h1, h2, _⟩
    · simp
    · exact h
    · rcases hg with h | h
      · omega
      · exact absurd h h1
  by_cases hm : m < 10
  · refine .inr (.inr ⟨by simp, by omega, ?_⟩)
    rw [← key, Lib.decDigits, dif_pos hm, Nat.mod_eq_of_lt hm]; rfl
  · refine .inr (.inl ⟨by simp, by omega, ?_⟩)
    rw [← key]
    conv => rhs; rw [Lib.decDigits, dif_neg hm]
    simp
theorem DI_end {n m : Nat} {t : List UInt8} (h : DI n m t) (h0 : m = 0) (ht : t ≠ []) : t = Lib.itoa n := by
  have e : Lib.itoa (n : Int) = Lib.decDigits n := by unfold Lib.itoa; rw [if_neg (by omega)]; rfl
  rw [e]
  rcases h with ⟨h1, _⟩ | ⟨_, h1, _⟩ | ⟨_, _, h⟩
  · exact absurd h1 ht
  · omega
  · exact h
theorem digit0 (w : World) : (Instr.slice 9 (.string ⟨#[48, 49, 50, 51, 52, 53, 54, 55, 56, 57]⟩) (some (.int .i64 ((0 : Nat) : Int))) (some (.int .i64 (((0 : Nat) : Int) + 1))) none).run Tryd.prog w = .ok (.string (tx [UInt8.ofNat (48 + 0)])) w := by kernel_rfl
theorem digit1 (w : World) : (Instr.slice 9 (.string ⟨#[48, 49, 50, 51, 52, 53, 54, 55, 56, 57]⟩) (some (.int .i64 ((1 : Nat) : Int))) (some (.int .i64 (((1 : Nat) : Int) + 1))) none).run Tryd.prog w = .ok (.string (tx [UInt8.ofNat (48 + 1)])) w := by kernel_rfl
theorem digit2 (w : World) : (Instr.slice 9 (.string ⟨#[48, 49, 50, 51, 52, 53, 54, 55, 56, 57]⟩) (some (.int .i64 ((2 : Nat) : Int))) (some (.int .i64 (((2 : Nat) : Int) + 1))) none).run Tryd.prog w = .ok (.string (tx [UInt8.ofNat (48 + 2)])) w := by kernel_rfl
theorem digit3 (w : World) : (Instr.slice 9 (.string ⟨#[48, 49, 50, 51, 52, 53, 54, 55, 56, 57]⟩) (some (.int .i64 ((3 : Nat) : Int))) (some (.int .i64 (((3 : Nat) : Int) + 1))) none).run Tryd.prog w = .ok (.string (tx [UInt8.ofNat (48 + 3)])) w := by kernel_rfl
theorem digit4 (w : World) : (Instr.slice 9 (.string ⟨#[48, 49, 50, 51, 52, 53, 54, 55, 56, 57]⟩) (some (.int .i64 ((4 : Nat) : Int))) (some (.int .i64 (((4 : Nat) : Int) + 1))) none).run Tryd.prog w = .ok (.string (tx [UInt8.ofNat (48 + 4)])) w := by kernel_rfl
theorem digit5 (w : World) : (Instr.slice 9 (.string ⟨#[48, 49, 50, 51, 52, 53, 54, 55, 56, 57]⟩) (some (.int .i64 ((5 : Nat) : Int))) (some (.int .i64 (((5 : Nat) : Int) + 1))) none).run Tryd.prog w = .ok (.string (tx [UInt8.ofNat (48 + 5)])) w := by kernel_rfl
theorem digit6 (w : World) : (Instr.slice 9 (.string ⟨#[48, 49, 50, 51, 52, 53, 54, 55, 56, 57]⟩) (some (.int .i64 ((6 : Nat) : Int))) (some (.int .i64 (((6 : Nat) : Int) + 1))) none).run Tryd.prog w = .ok (.string (tx [UInt8.ofNat (48 + 6)])) w := by kernel_rfl
theorem digit7 (w : World) : (Instr.slice 9 (.string ⟨#[48, 49, 50, 51, 52, 53, 54, 55, 56, 57]⟩) (some (.int .i64 ((7 : Nat) : Int))) (some (.int .i64 (((7 : Nat) : Int) + 1))) none).run Tryd.prog w = .ok (.string (tx [UInt8.ofNat (48 + 7)])) w := by kernel_rfl
theorem digit8 (w : World) : (Instr.slice 9 (.string ⟨#[48, 49, 50, 51, 52, 53, 54, 55, 56, 57]⟩) (some (.int .i64 ((8 : Nat) : Int))) (some (.int .i64 (((8 : Nat) : Int) + 1))) none).run Tryd.prog w = .ok (.string (tx [UInt8.ofNat (48 + 8)])) w := by kernel_rfl
theorem digit9 (w : World) : (Instr.slice 9 (.string ⟨#[48, 49, 50, 51, 52, 53, 54, 55, 56, 57]⟩) (some (.int .i64 ((9 : Nat) : Int))) (some (.int .i64 (((9 : Nat) : Int) + 1))) none).run Tryd.prog w = .ok (.string (tx [UInt8.ofNat (48 + 9)])) w := by kernel_rfl
theorem digit_run (d : Nat) (hd : d < 10) (w : World) : (Instr.slice 9 (.string ⟨#[48, 49, 50, 51, 52, 53, 54, 55, 56, 57]⟩) (some (.int .i64 (d : Int))) (some (.int .i64 ((d : Int) + 1))) none).run Tryd.prog w = .ok (.string (tx [UInt8.ofNat (48 + d)])) w := by
  have h : d = 0 ∨ d = 1 ∨ d = 2 ∨ d = 3 ∨ d = 4 ∨ d = 5 ∨ d = 6 ∨ d = 7 ∨ d = 8 ∨ d = 9 := by omega
  rcases h with rfl | rfl | rfl | rfl | rfl | rfl | rfl | rfl | rfl | rfl
  · exact digit0 w
  · exact digit1 w
  · exact digit2 w
  · exact digit3 w
  · exact digit4 w
  · exact digit5 w
  · exact digit6 w
  · exact digit7 w
  · exact digit8 w
  · exact digit9 w
theorem digit_run' (m : Nat) (w : World) : (Instr.slice 9 (.string ⟨#[48, 49, 50, 51, 52, 53, 54, 55, 56, 57]⟩) (some (.int .i64 ((m : Int) % 10))) (some (.int .i64 ((m : Int) % 10 + 1))) none).run Tryd.prog w = .ok (.string (tx [UInt8.ofNat (48 + m % 10)])) w :=
  digit_run (m % 10) (by omega) w
/-- is a text empty -/
def emp : Value → Nat
  | .string s => if s.size = 0 then 1 else 0
  | _ => 0
theorem tx_emp (t : List UInt8) : (tx t).toList.isEmpty = t.isEmpty := by rw [ByteArray.toList_eq]; rfl

set_option maxRecDepth 100000 in
set_option maxHeartbeats 2000000 in
theorem RDecimal (n : Nat) (hn : n < 4096) (w : World) : Calls Tryd.prog 43 #[.int .i64 (n : Int)] w fun e w' => e = .returned (.string (tx (Lib.itoa n))) ∧ w = w' := by
  go_enter Tryd.func43, Tryd.ntmps43
  go_wp2
  go_loop [0, 3] (fun i v => ∃ (m : Nat) (t : List UInt8), m < 4096 ∧ t.length + m ≤ 4097 ∧ i = .int .i64 (m : Int) ∧ v = .string (tx t) ∧ Hid (DI n m t)) (fun i v => (intOf i).toNat + emp v)
  case atStart => exact ⟨n, [], hn, by simp; omega, rfl, rfl, Lib.hid (.inl ⟨rfl, rfl⟩)⟩
  case round =>
    obtain ⟨m, t, hm, hl, rfl, rfl, HD⟩ := hrel
    obtain ⟨ds, hsl, hsz, HS⟩ : ∃ ds : ByteArray, (∀ w, (Instr.slice 9 (.string ⟨#[48, 49, 50, 51, 52, 53, 54, 55, 56, 57]⟩) (some (.int .i64 ((m : Int) % 10))) (some (.int .i64 ((m : Int) % 10 + 1))) none).run Tryd.prog w = .ok (.string ds) w) ∧ ds.size ≤ 1 ∧ Hid (ds = tx [UInt8.ofNat (48 + m % 10)]) :=
      ⟨_, digit_run' m, by rw [tx_size]; simp, Lib.hid rfl⟩
    have hz : (tx t).size ≤ 4097 := by rw [tx_size]; omega
    have HA : Hid (ds ++ tx t = tx (UInt8.ofNat (48 + m % 10) :: t)) := by rw [HS.out, tx_add]; exact Lib.hid rfl
    by_cases h0 : 0 < m
    · have HN := Lib.hid (DI_step HD.out (.inl h0))
      go_wp2
      go_round
      case rel => exact ⟨m / 10, _, by omega, by simp; omega, rfl, by rw [HA.out], HN⟩
      case measure =>
        rw [HA.out]
        have e1 : emp (.string (tx (UInt8.ofNat (48 + m % 10) :: t))) = 0 := by simp [emp, tx_size]
        rw [e1]; simp [intOf]; omega
    · have hd : decide ((0 : Int) < (m : Int)) = false := by simp; omega
      cases t with
      | nil =>
        have HN := Lib.hid (DI_step HD.out (.inr rfl))
        have hq : (tx []).toList.isEmpty = true := tx_emp []
        go_wp2
        go_round
        case rel => exact ⟨m / 10, _, by omega, by simp; omega, rfl, by rw [HA.out], HN⟩
        case measure =>
          rw [HA.out]
          have e1 : emp (.string (tx (UInt8.ofNat (48 + m % 10) :: []))) = 0 := by simp [emp, tx_size]
          have e2 : emp (.string (tx [])) = 1 := by simp [emp, tx_size]
          rw [e1, e2]; simp [intOf]; omega
      | cons ch t =>
        have HE := Lib.hid (DI_end HD.out (by omega) (by simp))
        have hq : (tx (ch :: t)).toList.isEmpty = false := tx_emp _
        generalize ch :: t = l at *
        go_wp2
        go_ret
        exact ⟨congrArg (fun l => Ending.returned (.string (tx l))) HE.out, rfl⟩
end Go.Proofs.YtabdhmfjbielaaaDoor
