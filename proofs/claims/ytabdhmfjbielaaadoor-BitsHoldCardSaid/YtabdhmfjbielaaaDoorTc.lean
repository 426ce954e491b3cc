/- PROVED here: the contract of the document's own Text over a list that rises. No condition but those in each theorem's own head. -/
import Derived.Test.YtabdhmfjbielaaaDoorTb
namespace Go.Proofs.YtabdhmfjbielaaaDoor
open Go Go.RowKit

set_option maxRecDepth 100000 in
set_option maxHeartbeats 8000000 in
theorem rtext_core (s : Nat) (hs : Small s) (l : List Int) (H : Hid (els s 4096 = l)) (r : List UInt8) (HR : Hid (textF s = r)) (A : Option Addr) (c : Nat) (w : World) (hI : Ints w A l) :
    Calls Tryd.prog 22 #[.agg #[.slice A l.length c]] w fun e w' => e = .returned (.string (tx r)) ∧ Below w.heap.size w w' := by
  have hl : l.length ≤ 4096 := by rw [← H.out]; exact els_len s 4096
  have HI := Lib.hid hI
  clear hI
  go_enter Tryd.func22, Tryd.ntmps22
  go_upto_region 1 with fail
  refine gen_world (fun w1 => Below w.heap.size w w1 ∧ Blk1 w1 w.heap.size (.slice A l.length c)) ⟨heap1 w _, heap_alloc_new w _⟩ ?_
  rintro w1 ⟨hb, b1⟩
  have x1 := b1.cell
  have HI1 := Lib.hid (HI.out.below hb)
  clear HI b1
  go_wp2_with fail
  go_loopw [3, 4] (fun v iv wr => ∃ (i : Nat) (out : List UInt8), i ≤ l.length ∧ v = .string (tx out) ∧ iv = .int .i64 (i : Int) ∧ Hid (OT s i out) ∧ ∃ n, wr = w1.drewN n) (fun _ iv _ => l.length - (intOf iv).toNat)
  case atStart => exact ⟨0, [], by omega, rfl, rfl, Lib.hid (OT_start s), 0, rfl⟩
  case round =>
    obtain ⟨i, out, hi, rfl, rfl, HO, n, rfl⟩ := hrel
    have hz : (tx out).size ≤ 204800 := by
      rw [tx_size]; obtain ⟨_, _, _, _, _, h⟩ := HO.out; omega
    by_cases hlt : i < l.length
    · have hlz : (i : Int) < (l.length : Int) := by omega
      obtain ⟨b, off, rfl, hbl, hc⟩ := HI1.out (by omega)
      have HC := Lib.hid hc
      clear hc
      obtain ⟨a, ha1, ha, _⟩ := el_at (s := s) (j := i) (by rw [H.out]; exact hlt)
      rw [H.out] at ha1
      have HA := Lib.hid ha1
      have hci : w1.cell? ⟨b, off + i, none⟩ = some (.int .i64 (a : Int)) := by rw [← ha1]; exact HC.out i hlt
      clear ha1
      go_wp2_with fail
      go_loopw [5] (fun kv wr => ∃ k : Nat, kv = .int .i64 (k : Int) ∧ k < l.length ∧ i ≤ k ∧ Hid (IK s i a k) ∧ ∃ n, wr = w1.drewN n) (fun kv _ => l.length - (intOf kv).toNat)
      case atStart => exact ⟨i, rfl, hlt, Nat.le_refl _, Lib.hid (IK_start (by rw [H.out]; exact hlt) (by rw [H.out]; exact HA.out)), n, rfl⟩
      case round =>
        obtain ⟨k, rfl, hkl, hik, HK, n', rfl⟩ := hrel
        by_cases hk1 : k + 1 < l.length
        · have hd1 : decide ((k : Int) + 1 < (l.length : Int)) = true := by simp; omega
          have hk1z : (k : Int) + 1 < (l.length : Int) := by omega
          have hkz : (k : Int) < (l.length : Int) := by omega
          have hx : l.getD k 0 = ((a + (k - i) : Nat) : Int) := by have := HK.out.2.2.1; rwa [H.out] at this
          have hxb : a + (k - i) < 4096 := by
            obtain ⟨z, z1, z2, _⟩ := el_at (s := s) (j := k) (by rw [H.out]; exact hkl)
            rw [H.out] at z1; omega
          have hck : w1.cell? ⟨b, off + k, none⟩ = some (.int .i64 ((a + (k - i) : Nat) : Int)) := by rw [← hx]; exact HC.out k hkl
          have hck1 : w1.cell? ⟨b, off + (k + 1), none⟩ = some (.int .i64 (l.getD (k + 1) 0)) := HC.out (k + 1) hk1
          have hw1 : IntKind.i64.wrap ((k : Int) + 1) = (k : Int) + 1 := IntWalk.i64_in _ (by omega)
          have hw2 : IntKind.i64.wrap (((a + (k - i) : Nat) : Int) + 1) = ((a + (k - i) : Nat) : Int) + 1 := IntWalk.i64_in _ (by omega)
          have ht1 : ((k : Int) + 1).toNat = k + 1 := by omega
          have h01 : 0 ≤ (k : Int) + 1 := by omega
          by_cases he : l.getD (k + 1) 0 = l.getD k 0 + 1
          · have HK2 := Lib.hid (IK_step hs HK.out (by rw [H.out]; exact hk1) (by rw [H.out]; exact he))
            rw [he, hx] at hck1
            clear he hx
            generalize ((a + (k - i) : Nat) : Int) = x at *
            go_wp2_with fail
            go_quiet (fail)
            clear hw1 hw2 ht1
            go_wp2
            go_roundw
            case rel => exact ⟨k + 1, by go_num, by omega, by omega, HK2, _, rfl⟩
            case measure => simp [intOf]; omega
          · have HKE := Lib.hid (show k + 1 < (els s 4096).length → (els s 4096).getD (k + 1) 0 ≠ (els s 4096).getD k 0 + 1 by rw [H.out]; exact fun _ => he)
            rw [hx] at he
            have hne : (l.getD (k + 1) 0 == ((a + (k - i) : Nat) : Int) + 1) = false := by simpa using he
            generalize l.getD (k + 1) 0 = y at *
            clear he hx
            generalize hX : ((a + (k - i) : Nat) : Int) = x at *
            have HX := Lib.hid hX
            clear hX
            go_wp2_with fail
            go_quiet (fail)
            clear hw1 hw2 ht1 hne hck1 hck
            have OS := OT_step hs HO.out (by rw [H.out]; exact hlt) (by rw [H.out]; exact HA.out) HK.out HKE.out
            obtain ⟨re1, re2, _, _⟩ := IK_end hs HK.out HKE.out
            have s1 := itoa_size a ha
            have s2 := itoa_size (a + (k - i)) re2
            have HS1 := Lib.hid OS.1
            have HS2 := Lib.hid OS.2
            clear OS re1 HKE
            have hx : l.getD k 0 = ((a + (k - i) : Nat) : Int) := by have := HK.out.2.2.1; rwa [H.out] at this
            have hck' : w1.cell? ⟨b, off + k, none⟩ = some (.int .i64 ((a + (k - i) : Nat) : Int)) := by rw [← hx]; exact HC.out k hkl
            clear hx
            have RD := Lib.hid (fun w => RDecimal a ha w)
            have RE := Lib.hid (fun w => RDecimal (a + (k - i)) re2 w)
            generalize a + (k - i) = ee at *
            by_cases he0 : out = []
            · subst he0
              have hq : (tx []).toList.isEmpty = true := tx_emp []
              by_cases hk2 : i + 2 ≤ k
              · have hd2 : decide ((i : Int) + 2 ≤ (k : Int)) = true := by simp; omega
                have HN := Lib.hid (HS2.out hk2)
                go_wp2_with (first
                  | (go_at_call_of 43 (Value.int IntKind.i64 (a : Int)); refine (RD.out _).mono ?_; rintro e w' ⟨rfl, rfl⟩)
                  | (go_at_call_of 43 (Value.int IntKind.i64 (ee : Int)); refine (RE.out _).mono ?_; rintro e w' ⟨rfl, rfl⟩))
                go_roundw
                case rel => exact ⟨k + 1, _, by omega, (congrArg Value.string (by show tx [] ++ tx _ ++ tx [45] ++ tx _ = _; rw [tx_add, tx_add, tx_add]; rfl)), by go_num, HN, _, rfl⟩
                case measure => simp [intOf]; omega
              · have hd2 : decide ((i : Int) + 2 ≤ (k : Int)) = false := by simp; omega
                have HN := Lib.hid (HS1.out (by omega))
                go_wp2_with (go_at_call_of 43 (Value.int IntKind.i64 (a : Int)); refine (RD.out _).mono ?_; rintro e w' ⟨rfl, rfl⟩)
                go_roundw
                case rel => exact ⟨i + 1, _, by omega, (congrArg Value.string (by show tx [] ++ tx _ = _; rw [tx_add]; rfl)), by go_num, HN, _, rfl⟩
                case measure => simp [intOf]; omega
            · have hq : (tx out).toList.isEmpty = false := by rw [tx_emp]; simpa using he0
              have HSP : Hid (sep out = out ++ [44]) := Lib.hid (if_neg he0)
              clear he0
              by_cases hk2 : i + 2 ≤ k
              · have hd2 : decide ((i : Int) + 2 ≤ (k : Int)) = true := by simp; omega
                have HN := Lib.hid (HS2.out hk2)
                rw [HSP.out] at HN
                go_wp2_with (first
                  | (go_at_call_of 43 (Value.int IntKind.i64 (a : Int)); refine (RD.out _).mono ?_; rintro e w' ⟨rfl, rfl⟩)
                  | (go_at_call_of 43 (Value.int IntKind.i64 (ee : Int)); refine (RE.out _).mono ?_; rintro e w' ⟨rfl, rfl⟩))
                go_roundw
                case rel => exact ⟨k + 1, _, by omega, (congrArg Value.string (by show tx out ++ tx [44] ++ tx _ ++ tx [45] ++ tx _ = _; rw [tx_add, tx_add, tx_add, tx_add])), by go_num, HN, _, rfl⟩
                case measure => simp [intOf]; omega
              · have hd2 : decide ((i : Int) + 2 ≤ (k : Int)) = false := by simp; omega
                have HN := Lib.hid (HS1.out (by omega))
                rw [HSP.out] at HN
                go_wp2_with (go_at_call_of 43 (Value.int IntKind.i64 (a : Int)); refine (RD.out _).mono ?_; rintro e w' ⟨rfl, rfl⟩)
                go_roundw
                case rel => exact ⟨i + 1, _, by omega, (congrArg Value.string (by show tx out ++ tx [44] ++ tx _ = _; rw [tx_add, tx_add])), by go_num, HN, _, rfl⟩
                case measure => simp [intOf]; omega
        · have hd1 : decide ((k : Int) + 1 < (l.length : Int)) = false := by simp; omega
          have HKE := Lib.hid (show k + 1 < (els s 4096).length → (els s 4096).getD (k + 1) 0 ≠ (els s 4096).getD k 0 + 1 by rw [H.out]; exact fun h => absurd h hk1)
          have hw1 : IntKind.i64.wrap ((k : Int) + 1) = (k : Int) + 1 := IntWalk.i64_in _ (by omega)
          go_wp2_with fail
          go_quiet (fail)
          clear hw1
          have OS := OT_step hs HO.out (by rw [H.out]; exact hlt) (by rw [H.out]; exact HA.out) HK.out HKE.out
          obtain ⟨re1, re2, _, _⟩ := IK_end hs HK.out HKE.out
          have s1 := itoa_size a ha
          have s2 := itoa_size (a + (k - i)) re2
          have HS1 := Lib.hid OS.1
          have HS2 := Lib.hid OS.2
          clear OS re1 HKE
          have hx : l.getD k 0 = ((a + (k - i) : Nat) : Int) := by have := HK.out.2.2.1; rwa [H.out] at this
          have hck' : w1.cell? ⟨b, off + k, none⟩ = some (.int .i64 ((a + (k - i) : Nat) : Int)) := by rw [← hx]; exact HC.out k hkl
          clear hx
          have RD := Lib.hid (fun w => RDecimal a ha w)
          have RE := Lib.hid (fun w => RDecimal (a + (k - i)) re2 w)
          generalize a + (k - i) = ee at *
          by_cases he0 : out = []
          · subst he0
            have hq : (tx []).toList.isEmpty = true := tx_emp []
            by_cases hk2 : i + 2 ≤ k
            · have hd2 : decide ((i : Int) + 2 ≤ (k : Int)) = true := by simp; omega
              have HN := Lib.hid (HS2.out hk2)
              go_wp2_with (first
                | (go_at_call_of 43 (Value.int IntKind.i64 (a : Int)); refine (RD.out _).mono ?_; rintro e w' ⟨rfl, rfl⟩)
                | (go_at_call_of 43 (Value.int IntKind.i64 (ee : Int)); refine (RE.out _).mono ?_; rintro e w' ⟨rfl, rfl⟩))
              go_roundw
              case rel => exact ⟨k + 1, _, by omega, (congrArg Value.string (by show tx [] ++ tx _ ++ tx [45] ++ tx _ = _; rw [tx_add, tx_add, tx_add]; rfl)), by go_num, HN, _, rfl⟩
              case measure => simp [intOf]; omega
            · have hd2 : decide ((i : Int) + 2 ≤ (k : Int)) = false := by simp; omega
              have HN := Lib.hid (HS1.out (by omega))
              go_wp2_with (go_at_call_of 43 (Value.int IntKind.i64 (a : Int)); refine (RD.out _).mono ?_; rintro e w' ⟨rfl, rfl⟩)
              go_roundw
              case rel => exact ⟨i + 1, _, by omega, (congrArg Value.string (by show tx [] ++ tx _ = _; rw [tx_add]; rfl)), by go_num, HN, _, rfl⟩
              case measure => simp [intOf]; omega
          · have hq : (tx out).toList.isEmpty = false := by rw [tx_emp]; simpa using he0
            have HSP : Hid (sep out = out ++ [44]) := Lib.hid (if_neg he0)
            clear he0
            by_cases hk2 : i + 2 ≤ k
            · have hd2 : decide ((i : Int) + 2 ≤ (k : Int)) = true := by simp; omega
              have HN := Lib.hid (HS2.out hk2)
              rw [HSP.out] at HN
              go_wp2_with (first
                | (go_at_call_of 43 (Value.int IntKind.i64 (a : Int)); refine (RD.out _).mono ?_; rintro e w' ⟨rfl, rfl⟩)
                | (go_at_call_of 43 (Value.int IntKind.i64 (ee : Int)); refine (RE.out _).mono ?_; rintro e w' ⟨rfl, rfl⟩))
              go_roundw
              case rel => exact ⟨k + 1, _, by omega, (congrArg Value.string (by show tx out ++ tx [44] ++ tx _ ++ tx [45] ++ tx _ = _; rw [tx_add, tx_add, tx_add, tx_add])), by go_num, HN, _, rfl⟩
              case measure => simp [intOf]; omega
            · have hd2 : decide ((i : Int) + 2 ≤ (k : Int)) = false := by simp; omega
              have HN := Lib.hid (HS1.out (by omega))
              rw [HSP.out] at HN
              go_wp2_with (go_at_call_of 43 (Value.int IntKind.i64 (a : Int)); refine (RD.out _).mono ?_; rintro e w' ⟨rfl, rfl⟩)
              go_roundw
              case rel => exact ⟨i + 1, _, by omega, (congrArg Value.string (by show tx out ++ tx [44] ++ tx _ = _; rw [tx_add, tx_add])), by go_num, HN, _, rfl⟩
              case measure => simp [intOf]; omega
    · have hlz : ¬ (i : Int) < (l.length : Int) := by omega
      have HE := Lib.hid ((OT_end HO.out (by rw [H.out]; omega)).trans HR.out)
      go_wp2
      go_ret
      exact ⟨congrArg (fun l => Ending.returned (.string (tx l))) HE.out, below_drewN hb _⟩
theorem RText (s : Nat) (hs : Small s) (l : List Int) (H : Hid (els s 4096 = l)) (A : Option Addr) (c : Nat) (w : World) (hR : RL w A c l) :
    Calls Tryd.prog 22 #[.agg #[.slice A l.length c]] w fun e w' => e = .returned (.string (tx (textF s))) ∧ Below w.heap.size w w' := rtext_core s hs l H _ (Lib.hid rfl) A c w hR.1
end Go.Proofs.YtabdhmfjbielaaaDoor
