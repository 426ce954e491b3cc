/- PROVED here: contracts of the document's begins and Sound. No condition but those in each theorem's own head. -/
import Derived.Test.YtcnmkmdedeiffaaTa
namespace Go.Proofs.Ytcnmkmdedeiffaa
open Go Go.RowKit

def bgI : Option Nat → Int
  | none => -1
  | some s => (s : Int)
set_option maxRecDepth 100000 in
set_option maxHeartbeats 1500000 in
theorem begins_any (A : Option Addr) (c n : Nat) (l : List Nd) (hn : n = l.length) (hl : n ≤ 4000) (hk : ∀ x ∈ l, x.ks.length ≤ 4000) (hK : Kin l n) : ∀ (p : Nat), p < n → ∀ w : World, Nds w A l → Calls Try.prog 28 #[.slice A n c, .int .i64 (p : Int)] w (IPost (bgI (bgA l p)) w) := by
  intro p
  induction p using Nat.strongRecOn with
  | _ p ih =>
    intro hp w hN
    have hpl : p < l.length := by omega
    obtain ⟨bA, off, rfl, hbA, hcA⟩ := hN (by omega)
    obtain ⟨K, ck, _, _, _, _, c4, hI⟩ := hcA p hpl
    have hks := hk _ (List.getElem_mem hpl)
    have hkid : ∀ j (hj : j < l[p].ks.length), 0 ≤ l[p].ks[j] ∧ l[p].ks[j] < (p : Int) := fun j hj => hK p hp _ (by rw [kidsAt_eq hpl]; exact List.getElem_mem _)
    have HEQ := Lib.hid (show bgA l p = stO (bgA l) l[p].ks.reverse p by rw [bgA_eq, kidsAt_eq hpl])
    have HKID := Lib.hid hkid
    have HIH := Lib.hid (fun (q : Nat) (hq : q < p) (w' : World) (hb : Below w.heap.size w w') => ih q hq (by omega) w' (hN.below hb))
    clear hcA hkid ih hN
    generalize l[p] = x at *
    obtain ⟨kd, nn, pl, tx, ks⟩ := x
    dsimp only at c4 hI hks HEQ HKID
    obtain ⟨v, hv⟩ : ∃ v, v = bgI (bgA l p) := ⟨_, rfl⟩
    rw [← hv]
    have HV := Lib.hid hv
    have hpz : (p : Int) < (n : Int) := by omega
    clear hv hk hK hn
    go_enter Try.func28, Try.ntmps28
    go_wp2
    go_loopw [5, 7] (fun kv iv wr => ∃ (m s : Nat), m ≤ ks.length ∧ iv = .int .i64 ((m : Int) - 1) ∧ kv = .int .i64 (s : Int) ∧ s ≤ p ∧ stO (bgA l) (ks.reverse.take (ks.length - m)) p = some s ∧ Below w.heap.size w wr) (fun _ iv _ => (intOf iv + 1).toNat)
    case atStart => exact ⟨ks.length, p, Nat.le_refl _, by go_num, rfl, Nat.le_refl _, by rw [Nat.sub_self]; rfl, Below.refl _ _⟩
    case round =>
      obtain ⟨m, s, hm, rfl, rfl, hsp, hst, hbw⟩ := hrel
      cases m with
      | zero =>
        have hfin : v = (s : Int) := by
          rw [HV.out, HEQ.out]
          rw [show ks.reverse.take (ks.length - 0) = ks.reverse from List.take_of_length_le (by simp)] at hst
          rw [hst]; rfl
        have HF := Lib.hid hfin
        clear hst hfin
        go_wp2
        go_ret
        exact ⟨ret_int HF.out.symm, hbw⟩
      | succ j =>
        rw [show (((j + 1 : Nat) : Int) - 1) = (j : Int) by omega]
        have hj : j < ks.length := by omega
        obtain ⟨bK, oK, rfl, hbK, hcK⟩ := hI (by omega)
        have hck := (hbw.cell (p := ⟨bK, oK + j, none⟩) hbK).trans (hcK j hj)
        obtain ⟨hk0, hkp⟩ := HKID.out j hj
        have hstep : ks.reverse.take (ks.length - j) = ks.reverse.take (ks.length - (j + 1)) ++ [ks[j]] := by
          have h1 : ks.length - (j + 1) < ks.reverse.length := by rw [List.length_reverse]; omega
          rw [show ks.length - j = ks.length - (j + 1) + 1 by omega, List.take_succ_eq_append_getElem h1, List.getElem_reverse]
          congr 3
          omega
        have HST := Lib.hid (show stO (bgA l) (ks.reverse.take (ks.length - j)) p = stO (bgA l) [ks[j]] s by rw [hstep, stO_snoc, hst])
        have HALL := Lib.hid (show ks.reverse = ks.reverse.take (ks.length - j) ++ ks.reverse.drop (ks.length - j) from (List.take_append_drop _ _).symm)
        clear hcK hstep hst
        generalize ks[j] = kk at *
        have hjz : (0 : Int) ≤ (j : Int) := by omega
        by_cases e1 : kk = (s : Int) - 1
        · obtain ⟨s', rfl⟩ : ∃ s', s = s' + 1 := ⟨s - 1, by omega⟩
          have hkk : kk = (s' : Int) := by omega
          subst hkk
          have q1 : ((s' : Int) != (s' : Int)) = false := by simp
          have q2 : ¬ (s' : Int) < 0 := by omega
          have q3 : decide ((s' : Int) < 0) = false := decide_eq_false q2
          have HC := Lib.hid (HIH.out s' (by omega) wr hbw)
          have HS1 := Lib.hid (show stO (bgA l) [(s' : Int)] (s' + 1) = bgA l s' by
            unfold stO
            rw [if_neg (by omega), if_pos (by omega), Nat.add_sub_cancel]
            cases bgA l s' <;> rfl)
          cases hbg : bgA l s' with
          | none =>
            rw [hbg] at HC HS1
            have HF := Lib.hid (show v = -1 by
              rw [HV.out, HEQ.out, HALL.out, stO_none _ _ _ (by rw [HST.out, HS1.out])]; rfl)
            have HC2 := Lib.hid (show Calls Try.prog 28 #[.slice (some ⟨bA, off, none⟩) n c, .int .i64 (s' : Int)] wr (IPost (-1) wr) from HC.out)
            clear hbg HC e1
            rw [show (((s' + 1 : Nat) : Int)) = (s' : Int) + 1 by omega]
            go_wp2_with (go_at_call 28; refine HC2.out.mono ?_)
            rintro e w5 ⟨rfl, hb5⟩
            go_wp2
            go_ret
            exact ⟨ret_int HF.out.symm, bt hbw hb5⟩
          | some s2 =>
            have hle := bgA_le l _ _ hbg
            rw [hbg] at HC HS1
            have HC2 := Lib.hid (show Calls Try.prog 28 #[.slice (some ⟨bA, off, none⟩) n c, .int .i64 (s' : Int)] wr (IPost (s2 : Int) wr) from HC.out)
            have HNX := Lib.hid (show stO (bgA l) (ks.reverse.take (ks.length - j)) p = some s2 by rw [HST.out, HS1.out])
            clear hbg HC e1
            have q4 : ¬ (s2 : Int) < 0 := by omega
            rw [show (((s' + 1 : Nat) : Int)) = (s' : Int) + 1 by omega]
            go_wp2_with (go_at_call 28; refine HC2.out.mono ?_)
            rintro e w5 ⟨rfl, hb5⟩
            go_wp2
            go_roundw
            case rel => exact ⟨j, s2, by omega, by go_num, rfl, by omega, HNX.out, bt hbw hb5⟩
            case measure => simp [intOf]
        · have q1 : (kk != (s : Int) - 1) = true := by simpa using e1
          have HF := Lib.hid (show v = -1 by
            rw [HV.out, HEQ.out, HALL.out, stO_none _ _ _ (by
              rw [HST.out]
              unfold stO
              by_cases h0 : s = 0
              · rw [if_pos h0]
              · rw [if_neg h0, if_neg e1])]; rfl)
          clear e1
          go_wp2
          go_ret
          exact ⟨ret_int HF.out.symm, hbw⟩
end Go.Proofs.Ytcnmkmdedeiffaa
