/- PROVED here: contracts of the document's Place and Join. No condition but those in each theorem's own head. -/
import Derived.Test.YtahmadelokofbaaDoorRa
import Derived.Test.YtahmadelokofbaaDoorY
namespace Go.Proofs.YtahmadelokofbaaDoor
open Go Go.RowKit

set_option maxRecDepth 100000 in
set_option maxHeartbeats 1500000 in
theorem rplace_any (s : ByteArray) (t : Int) (w : World) (hs : s.size ≤ 500) : Calls Tryd.prog 15 #[.string s, .int .i64 t] w (PlacePost s.data.toList (clampN t s.size) w) := by
  have HL := Lib.hid (show s.data.toList.length = s.size by simp)
  obtain ⟨k, hk⟩ : ∃ k, k = clampN t s.size := ⟨_, rfl⟩
  have hkl : k ≤ s.size := by rw [hk]; exact clampN_le _ _
  have HK := Lib.hid (show ∀ j : Nat, (j < s.size ∧ (j : Int) < t) ↔ j < k from fun j => by rw [hk]; unfold clampN; omega)
  rw [← hk]
  clear hk
  go_enter Tryd.func15, Tryd.ntmps15
  go_wp2_with (fail)
  go_loop [6, 7, 8] (fun a b i => ∃ j : Nat, j ≤ k ∧ i = .int .i64 (j : Int) ∧ a = .int .i64 (1 + (nlC s.data.toList j : Int)) ∧ b = .int .i64 ((j : Int) - (bgF s.data.toList j : Int) + 1)) (fun _ _ i => k - (intOf i).toNat)
  case atStart => exact ⟨0, Nat.zero_le _, rfl, rfl, rfl⟩
  case round =>
    obtain ⟨j, hj, rfl, rfl, rfl⟩ := hrel
    have hb1 := bgF_le s.data.toList j
    have hb2 := nlC_le s.data.toList j
    by_cases hlt : j < k
    · obtain ⟨h1, h2⟩ := (HK.out j).2 hlt
      have hlz : (j : Int) < (s.size : Int) := by omega
      have HG := Lib.hid (getD_get s j h1)
      have HN := Lib.hid (nlC_succ (l := s.data.toList) (k := j) (by rw [HL.out]; exact h1))
      have HB := Lib.hid (show bgF s.data.toList (j + 1) = if (s.data.toList.getD j 0).toNat = 10 then j + 1 else bgF s.data.toList j from rfl)
      by_cases hc : s[j].toNat = 10
      · have q : ((s[j].toNat : Int) == 10) = true := beq_iff_eq.2 (by omega)
        have HN2 := Lib.hid (show nlC s.data.toList (j + 1) = nlC s.data.toList j + 1 by rw [HN.out, HG.out, if_pos hc])
        have HB2 := Lib.hid (show bgF s.data.toList (j + 1) = j + 1 by rw [HB.out, HG.out, if_pos hc])
        clear hc
        go_wp2
        go_round
        case rel => exact ⟨j + 1, by omega, by go_num, by rw [HN2.out]; first | (congr 1; omega) | congr 1, by rw [HB2.out]; first | (congr 1; omega) | congr 1⟩
        case measure => simp [intOf]; omega
      · have q : ((s[j].toNat : Int) == 10) = false := beq_eq_false_iff_ne.2 (by omega)
        have HN2 := Lib.hid (show nlC s.data.toList (j + 1) = nlC s.data.toList j by rw [HN.out, HG.out, if_neg hc]; rfl)
        have HB2 := Lib.hid (show bgF s.data.toList (j + 1) = bgF s.data.toList j by rw [HB.out, HG.out, if_neg hc])
        clear hc
        go_wp2
        go_round
        case rel => exact ⟨j + 1, by omega, by go_num, by rw [HN2.out], by rw [HB2.out]; congr 1; omega⟩
        case measure => simp [intOf]; omega
    · obtain rfl : j = k := by omega
      have hno : ¬ (j < s.size ∧ (j : Int) < t) := fun h => hlt ((HK.out j).1 h)
      by_cases h1 : j < s.size
      · have hlz : (j : Int) < (s.size : Int) := by omega
        have hlt2 : ¬ (j : Int) < t := fun h => hno ⟨h1, h⟩
        go_wp2
        go_ret2
        exact place_ret rfl rfl
      · have hlz : ¬ (j : Int) < (s.size : Int) := by omega
        go_wp2
        go_ret2
        exact place_ret rfl rfl
def tot (ts : List RTok) : Nat := (ts.map fun t => t.s.length + 1).sum
theorem tot_app (a b : List RTok) : tot (a ++ b) = tot a + tot b := by unfold tot; rw [List.map_append, List.sum_append]
theorem tot_take (ts : List RTok) (j : Nat) : tot (ts.take j) ≤ tot ts := by
  conv => rhs; rw [← List.take_append_drop j ts, tot_app]
  omega
theorem join_snoc (a : List (List UInt8)) (x : List UInt8) : Lib.join (a ++ [x]) [32] = if a = [] then x else Lib.join a [32] ++ 32 :: x := by
  induction a with
  | nil => rw [List.nil_append, Lib.join_one]; rfl
  | cons y a ih =>
    rw [if_neg (by simp)]
    cases a with
    | nil => rw [List.singleton_append, join_cons2, Lib.join_one, Lib.join_one]
    | cons z a =>
      rw [if_neg (by simp)] at ih
      rw [List.cons_append, List.cons_append, join_cons2, ← List.cons_append, ih, join_cons2, List.append_assoc, List.cons_append]
theorem rtx_append (a b : List RTok) : rtx (a ++ b) = rtx a ++ rtx b := by unfold rtx; rw [List.filter_append, List.map_append]
theorem join_tot (ts : List RTok) : (Lib.join (rtx ts) [32]).length ≤ tot ts := by
  suffices h : ∀ n, n ≤ ts.length → (Lib.join (rtx (ts.take n)) [32]).length ≤ tot (ts.take n) by
    have := h ts.length (Nat.le_refl _)
    rwa [List.take_length] at this
  intro n
  induction n with
  | zero => intro _; rw [List.take_zero, show rtx [] = [] from rfl, Lib.join_nil]; simp
  | succ n ih =>
    intro hn
    have ih := ih (by omega)
    rw [List.take_succ_eq_append_getElem (by omega), tot_app, rtx_snoc]
    have e : tot [ts[n]] = ts[n].s.length + 1 := by simp [tot]
    rw [e]
    split
    · rw [join_snoc]
      split
      · omega
      · rw [List.length_append, List.length_cons]; omega
    · rw [List.append_nil]; omega
theorem bs_cat (a b : List UInt8) : bs a ++ bs b = bs (a ++ b) := by
  apply ByteArray.ext
  rw [ByteArray.data_append]
  simp [bs]
theorem bs_cat1 (a : List UInt8) : bs a ++ ⟨#[32]⟩ = bs (a ++ [32]) := bs_cat a [32]
set_option maxRecDepth 100000 in
set_option maxHeartbeats 1500000 in
theorem rjoin_any (A : Option Addr) (c : Nat) (ts : List RTok) (w : World) (hT : RToks w A ts) (hl : ts.length ≤ 100) (hj : tot ts ≤ 9000000) : Calls Tryd.prog 21 #[.slice A ts.length c] w fun e w' => e = .returned (.string (bs (Lib.join (rtx ts) [32]))) ∧ w = w' := by
  have HT := Lib.hid hT
  clear hT
  obtain ⟨n, hn⟩ : ∃ n, n = ts.length := ⟨_, rfl⟩
  rw [← hn] at hl ⊢
  have HN := Lib.hid hn
  clear hn
  go_enter Tryd.func21, Tryd.ntmps21
  go_wp2_with (fail)
  go_loop [3, 4, 5] (fun v f i => ∃ (j : Nat) (X : ByteArray), j ≤ n ∧ i = .int .i64 (j : Int) ∧ v = .string X ∧ X = bs (Lib.join (rtx (ts.take j)) [32]) ∧ f = .bool (rtx (ts.take j)).isEmpty) (fun _ _ i => n - (intOf i).toNat)
  case atStart => exact ⟨0, _, Nat.zero_le _, rfl, rfl, rfl, rfl⟩
  case round =>
    obtain ⟨j, X, hj2, rfl, rfl, hX, rfl⟩ := hrel
    by_cases hlt : j < n
    · have hlz : (j : Int) < (n : Int) := by omega
      have hlt2 : j < ts.length := by rw [← HN.out]; exact hlt
      obtain ⟨b, off, rfl, hbl, hc⟩ := HT.out (by omega)
      obtain ⟨c0, c1, c2, c3⟩ := hc j hlt2
      have HS := Lib.hid (show rtx (ts.take (j + 1)) = _ by rw [List.take_succ_eq_append_getElem hlt2, rtx_snoc])
      have hXs : X.size ≤ 9000000 := by
        rw [hX, bs_size]
        exact Nat.le_trans (join_tot _) (Nat.le_trans (tot_take ts j) hj)
      have hYs : (bs ts[j].s).size ≤ 9000000 := by
        rw [bs_size]
        have h1 := tot_take ts (j + 1)
        rw [List.take_succ_eq_append_getElem hlt2, tot_app] at h1
        have e : tot [ts[j]] = ts[j].s.length + 1 := by simp [tot]
        omega
      clear hc c1 c2
      generalize ts[j] = t at *
      have HX := Lib.hid hX
      obtain ⟨Y, hY⟩ : ∃ Y, Y = bs t.s := ⟨_, rfl⟩
      rw [← hY] at c3 hYs
      have HY := Lib.hid hY
      clear hX hY
      obtain ⟨rs, hrs⟩ : ∃ rs, rs = rtx (ts.take j) := ⟨_, rfl⟩
      rw [← hrs]
      have HRS := Lib.hid hrs
      clear hrs
      by_cases hk : t.k = 5
      · have hq : (t.k == 5) = true := beq_iff_eq.2 hk
        have HR := Lib.hid (show rtx (ts.take (j + 1)) = rs by rw [HS.out, hk, HRS.out]; simp)
        clear hk HS
        go_wp2
        go_round
        case rel => exact ⟨j + 1, X, by omega, by go_num, rfl, by rw [HR.out, HRS.out]; exact HX.out, by rw [HR.out]⟩
        case measure => simp [intOf]; omega
      · have hq : (t.k == 5) = false := beq_eq_false_iff_ne.2 hk
        have HR := Lib.hid (show rtx (ts.take (j + 1)) = rs ++ [t.s] by
          rw [HS.out, HRS.out, if_pos (by simpa using hk)])
        have HF := Lib.hid (show (rtx (ts.take (j + 1))).isEmpty = false by rw [HR.out]; simp)
        clear hk HS
        cases he : rs.isEmpty
        · have HJ := Lib.hid (show X ++ ⟨#[32]⟩ ++ Y = bs (Lib.join (rtx (ts.take (j + 1))) [32]) by
            rw [HX.out, HY.out, ← HRS.out, bs_cat1, bs_cat, HR.out, join_snoc, if_neg (fun h => by rw [h] at he; cases he)]
            simp)
          go_wp2
          go_round
          case rel => exact ⟨j + 1, _, by omega, by go_num, rfl, HJ.out, by rw [HF.out]⟩
          case measure => simp [intOf]; omega
        · have HJ := Lib.hid (show X ++ Y = bs (Lib.join (rtx (ts.take (j + 1))) [32]) by
            have hr0 : rs = [] := by simpa using he
            rw [HX.out, HY.out, ← HRS.out, hr0, HR.out, hr0, join_snoc, if_pos rfl, Lib.join_nil, bs_cat]; rfl)
          go_wp2
          go_round
          case rel => exact ⟨j + 1, _, by omega, by go_num, rfl, HJ.out, by rw [HF.out]⟩
          case measure => simp [intOf]; omega
    · have hlz : ¬ (j : Int) < (n : Int) := by omega
      have ht : ts.take j = ts := List.take_of_length_le (by rw [← HN.out]; omega)
      rw [ht] at hX ⊢
      have HX := Lib.hid hX
      clear hX ht
      go_wp2
      go_ret
      exact ⟨by rw [← HX.out]; rfl, rfl⟩
end Go.Proofs.YtahmadelokofbaaDoor
