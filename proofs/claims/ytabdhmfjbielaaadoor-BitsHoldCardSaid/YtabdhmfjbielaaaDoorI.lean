/- PROVED here: the contract of Next, where the library's tables are as its text lays them. No condition but those in each theorem's own head. -/
import Derived.Test.YtabdhmfjbielaaaDoorH
import Derived.Test.YtabdhmfjbielaaaDoorN
import Derived.Test.YtabdhmfjbielaaaDoorSh
import Derived.Lib.AppendIntMem
namespace Go.Proofs.YtabdhmfjbielaaaDoor
open Go Go.RowKit

/-- the library's two tables, as the program's text lays them -/
def Tabs (w : World) : Prop := TabAt (Tryd.lays29_ren.g 1) Lib.deBruijn64tab w ∧ Lib.TabIs Tryd.prog w "internal/strconv.uint64pow10" .u64 Lib.pow10Tab
theorem tz (x : Nat) (hx : x < 18446744073709551616) (w : World) (hT : Tabs w) : Calls Tryd.prog 39 #[.int .u64 (x : Int)] w fun e w' => e = .returned (.int .i64 (Lib.ctz 64 x : Int)) ∧ w = w' :=
  (Any7.bits_TrailingZeros64 Tryd.lays29 x hx w (fun _ => hT.1)).mono fun _ _ ⟨he, hw⟩ => ⟨he, hw.symm⟩
theorem TabAt.below {g : Nat} {tab : List Nat} {w w' : World} (h : TabAt g tab w) (hb : Below w.heap.size w w') : TabAt g tab w' := fun j hj => by
  have hc := h j hj
  rw [hb.cell (p := ⟨g, j, none⟩) (block_lt_of_cell hc)]; exact hc

set_option maxRecDepth 100000 in
set_option maxHeartbeats 2000000 in
theorem next_mid (s n : Nat) (r : Int) (H : Hid (nextF s n = r)) (hn : n < 4096) (w : World) (hT : Hid (∀ w', Below w.heap.size w w' → Tabs w')) : Calls Tryd.prog 19 #[.agg (ofF (wd s)), .int .i64 (n : Int)] w fun e w' => e = .returned (.int .i64 r) ∧ Below w.heap.size w w' := by
  have hlt : (n : Int) < 4096 := by omega
  have hd : decide ((4096 : Int) ≤ (n : Int)) = false := by simp; omega
  go_enter Tryd.func19, Tryd.ntmps19
  go_wp2_with fail
  clear hd
  refine gen_world (fun w1 => Below w.heap.size w w1 ∧ Blk w1 w.heap.size (ofF (wd s))) ⟨(Below.refl _ _).alloc (Nat.le_refl _) _, heap_alloc_new w _⟩ ?_
  rintro w1 ⟨hb, h1⟩
  obtain ⟨x0, hx0, hN⟩ : ∃ x0 : Nat, bits .andNot .u64 (wd s (n / 64) : Int) ((maskN n - 1 : Nat) : Int) = (x0 : Int) ∧ NI s n (n / 64) x0 :=
    ⟨_, u64_andNot_nat _ _ (wd_lt _ _) (by have := mask_lt n; omega), NI_start s n⟩
  have HN := Lib.hid hN
  clear hN
  have hmz : IntKind.u64.wrap ((maskN n : Int) - 1) = ((maskN n - 1 : Nat) : Int) := by
    have h1 := mask_lt n
    have h2 : 0 < maskN n := by unfold maskN; exact Nat.pow_pos (by omega)
    rw [IntKind.wrap_u64]; omega
  have hg : w1.cell? ⟨w.heap.size, n / 64, none⟩ = some (.int .u64 (wd s (n / 64) : Int)) := (h1.cell _).trans (ofF_get _ _ (by omega))
  have hi0 : 0 ≤ (n : Int) / 64 := by omega
  have hi1 : (n : Int) / 64 < 64 := by omega
  have hi2 : ((n : Int) / 64).toNat = n / 64 := by omega
  go_quiet (first | (go_at_call 38; exact quiet_left (mask_any _ hn _)))
  clear hi2 hmz hg hx0
  have hb2 : Below w.heap.size w (w1.drewN nq) := below_drewN hb nq
  have h2 : Blk (w1.drewN nq) w.heap.size (ofF (wd s)) := h1
  have hT2 := Lib.hid (hT.out _ hb2)
  clear hb h1 hT
  generalize w1.drewN nq = w2 at *
  have hiq : (n : Int) / 64 = ((n / 64 : Nat) : Int) := by omega
  have hne : n ≤ 64 * (n / 64 + 1) := by omega
  have hq : n / 64 < 64 := by omega
  rw [hiq]
  clear hiq hi0 hi1
  generalize hi : n / 64 = i0 at *
  clear hi
  have HNE : Hid (n ≤ 64 * (i0 + 1)) := hne
  clear hne
  go_wp2
  go_loop [5, 6] (fun i x => ∃ (k y : Nat), k < 64 ∧ i0 ≤ k ∧ i = .int .i64 k ∧ x = .int .u64 y ∧ Hid (NI s n k y)) (fun i _ => 64 - (intOf i).toNat)
  case atStart => exact ⟨i0, x0, hq, Nat.le_refl _, rfl, rfl, HN⟩
  case round =>
    clear HN hq
    obtain ⟨k, y, hk, hik, rfl, rfl, HN⟩ := hrel
    by_cases hy : y = 0
    · subst hy
      by_cases hk2 : k + 1 = 64
      · have hz : ((k : Int) + 1 == 64) = true := by simp; omega
        have hr : r = -1 := by rw [← H.out]; exact NI_none HN.out (by omega)
        subst hr
        go_wp2
        go_ret
        exact ⟨rfl, hb2⟩
      · have hz : ((k : Int) + 1 == 64) = false := by simp; omega
        have hg : w2.cell? ⟨w.heap.size, k + 1, none⟩ = some (.int .u64 (wd s (k + 1) : Int)) := (h2.cell _).trans (ofF_get _ _ (by omega))
        have HN2 := Lib.hid (NI_next HN.out (by have := HNE.out; omega))
        go_wp2
        go_round
        case rel => exact ⟨k + 1, wd s (k + 1), by omega, by omega, by go_num, rfl, HN2⟩
        case measure => simp [intOf]; omega
    · have hz : ((y : Int) == 0) = false := by simp; omega
      have hr : r = ((64 * k + Lib.ctz 64 y : Nat) : Int) := by rw [← H.out]; exact NI_found HN.out hk hy
      have hc := (ctz_bits y hy HN.out.1).1
      subst hr
      go_wp2_with (first | (go_at_call 39; refine (tz _ HN.out.1 _ hT2.out).mono ?_; rintro e w' ⟨rfl, rfl⟩))
      go_ret
      exact ⟨ret_int (by omega), hb2⟩
set_option maxRecDepth 100000 in
set_option maxHeartbeats 2000000 in
theorem next_neg (s : Nat) (m r : Int) (H : Hid (nextF s 0 = r)) (hm : m < 0) (w : World) (hT : Hid (∀ w', Below w.heap.size w w' → Tabs w')) : Calls Tryd.prog 19 #[.agg (ofF (wd s)), .int .i64 m] w fun e w' => e = .returned (.int .i64 r) ∧ Below w.heap.size w w' := by
  have hd : decide ((4096 : Int) ≤ m) = false := by simp; omega
  have m0 : ∀ w, Calls Tryd.prog 38 #[.int .i64 0] w fun e w' => e = .returned (.int .u64 (maskN 0 : Int)) ∧ w = w' := fun w => mask_any 0 (by omega) w
  have M0 := Lib.hid m0
  have hmx : max m 0 = 0 := by omega
  clear m0
  go_enter Tryd.func19, Tryd.ntmps19
  go_wp2_with fail
  clear hd hmx
  refine gen_world (fun w1 => Below w.heap.size w w1 ∧ Blk w1 w.heap.size (ofF (wd s))) ⟨(Below.refl _ _).alloc (Nat.le_refl _) _, heap_alloc_new w _⟩ ?_
  rintro w1 ⟨hb, h1⟩
  obtain ⟨x0, hx0, hN⟩ : ∃ x0 : Nat, bits .andNot .u64 (wd s 0 : Int) ((maskN 0 - 1 : Nat) : Int) = (x0 : Int) ∧ NI s (0 : Nat) 0 x0 :=
    ⟨_, u64_andNot_nat _ _ (wd_lt _ _) (by have := mask_lt 0; omega), NI_start s 0⟩
  have HN := Lib.hid hN
  clear hN
  have hmz : IntKind.u64.wrap ((maskN 0 : Int) - 1) = ((maskN 0 - 1 : Nat) : Int) := by
    have h1 := mask_lt 0
    have h2 : 0 < maskN 0 := by unfold maskN; exact Nat.pow_pos (by omega)
    rw [IntKind.wrap_u64]; omega
  have hg : w1.cell? ⟨w.heap.size, 0, none⟩ = some (.int .u64 (wd s 0 : Int)) := (h1.cell _).trans (ofF_get _ _ (by omega))
  go_quiet (first | (go_at_call 38; exact quiet_left (M0.out _)))
  clear hmz hg hx0
  have hb2 : Below w.heap.size w (w1.drewN nq) := below_drewN hb nq
  have h2 : Blk (w1.drewN nq) w.heap.size (ofF (wd s)) := h1
  have hT2 := Lib.hid (hT.out _ hb2)
  clear hb h1 hT
  generalize w1.drewN nq = w2 at *
  go_wp2
  go_loop [5, 6] (fun i x => ∃ (k y : Nat), k < 64 ∧ 0 ≤ k ∧ i = .int .i64 k ∧ x = .int .u64 y ∧ Hid (NI s (0 : Nat) k y)) (fun i _ => 64 - (intOf i).toNat)
  case atStart => exact ⟨0, x0, by omega, Nat.le_refl _, rfl, rfl, HN⟩
  case round =>
    clear HN
    obtain ⟨k, y, hk, hik, rfl, rfl, HN⟩ := hrel
    by_cases hy : y = 0
    · subst hy
      by_cases hk2 : k + 1 = 64
      · have hz : ((k : Int) + 1 == 64) = true := by simp; omega
        have hr : r = -1 := by rw [← H.out]; exact NI_none HN.out (by omega)
        subst hr
        go_wp2
        go_ret
        exact ⟨rfl, hb2⟩
      · have hz : ((k : Int) + 1 == 64) = false := by simp; omega
        have hg : w2.cell? ⟨w.heap.size, k + 1, none⟩ = some (.int .u64 (wd s (k + 1) : Int)) := (h2.cell _).trans (ofF_get _ _ (by omega))
        have HN2 := Lib.hid (NI_next HN.out (by omega))
        go_wp2
        go_round
        case rel => exact ⟨k + 1, wd s (k + 1), by omega, by omega, by go_num, rfl, HN2⟩
        case measure => simp [intOf]; omega
    · have hz : ((y : Int) == 0) = false := by simp; omega
      have hr : r = ((64 * k + Lib.ctz 64 y : Nat) : Int) := by rw [← H.out]; exact NI_found HN.out hk hy
      have hc := (ctz_bits y hy HN.out.1).1
      subst hr
      go_wp2_with (first | (go_at_call 39; refine (tz _ HN.out.1 _ hT2.out).mono ?_; rintro e w' ⟨rfl, rfl⟩))
      go_ret
      exact ⟨ret_int (by omega), hb2⟩

theorem next_big (s : Nat) (m : Int) (hm : 4096 ≤ m) (w : World) : Calls Tryd.prog 19 #[.agg (ofF (wd s)), .int .i64 m] w fun e w' => e = .returned (.int .i64 (-1)) ∧ Below w.heap.size w w' := by
  have hd : decide ((4096 : Int) ≤ m) = true := by simp; omega
  go_enter Tryd.func19, Tryd.ntmps19
  go_wp2
  go_ret
  exact ⟨rfl, (Below.refl _ _).alloc (Nat.le_refl _) _⟩
theorem Tabs.below {w w' : World} (h : Tabs w) (hb : Below w.heap.size w w') : Tabs w' :=
  ⟨TabAt.below h.1 hb, Lib.tabBelow_of_tabIs h.2 w' hb⟩
theorem Next (s : Nat) (n : Int) (w : World) (hT : Tabs w) : Calls Tryd.prog 19 #[.agg (ofF (wd s)), .int .i64 n] w fun e w' => e = .returned (.int .i64 (nextF s n)) ∧ Below w.heap.size w w' := by
  have HT := Lib.hid (fun w' (hb : Below w.heap.size w w') => hT.below hb)
  by_cases h0 : n < 0
  · exact next_neg s n _ (Lib.hid (nextF_neg h0).symm) h0 w HT
  · by_cases h1 : n < 4096
    · obtain ⟨k, rfl⟩ : ∃ k : Nat, n = k := ⟨n.toNat, by omega⟩
      exact next_mid s k _ (Lib.hid rfl) (by omega) w HT
    · rw [nextF_big (by omega)]; exact next_big s n (by omega) w
end Go.Proofs.YtabdhmfjbielaaaDoor
