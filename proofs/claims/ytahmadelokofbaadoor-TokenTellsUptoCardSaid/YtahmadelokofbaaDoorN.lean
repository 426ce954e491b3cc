/- PROVED here: the contract of Place. No condition but those in each theorem's own head. -/
import Derived.Test.YtahmadelokofbaaDoorM
import Derived.Laws.Strings3
import Derived.Laws.Small
namespace Go.Proofs.YtahmadelokofbaaDoor
open Go Go.RowKit

/-- where the line of a place begins -/
def bgF (l : List UInt8) : Nat → Nat
  | 0 => 0
  | k + 1 => if (l.getD k 0).toNat = 10 then k + 1 else bgF l k
theorem bgF_le (l : List UInt8) : ∀ k, bgF l k ≤ k
  | 0 => Nat.le_refl _
  | k + 1 => by unfold bgF; have := bgF_le l k; split <;> omega
def nlC (l : List UInt8) (k : Nat) : Nat := (l.take k).count 10
theorem nlC_succ {l : List UInt8} {k : Nat} (h : k < l.length) : nlC l (k + 1) = nlC l k + if (l.getD k 0).toNat = 10 then 1 else 0 := by
  unfold nlC
  rw [List.take_succ_eq_append_getElem h, List.count_append, List.getD_eq_getElem?_getD, List.getElem?_eq_getElem h, Option.getD_some, List.count_singleton]
  have : (l[k] == 10) = decide (l[k].toNat = 10) := by
    rw [Bool.eq_iff_iff]; simp [← UInt8.toNat_inj]
  rw [this]; simp
theorem nlC_le (l : List UInt8) (k : Nat) : nlC l k ≤ k := by
  unfold nlC; have := List.count_le_length (a := (10 : UInt8)) (l := l.take k); simp at this; omega
def clampN (t : Int) (n : Nat) : Nat := (max 0 (min t (n : Int))).toNat
theorem clampN_le (t : Int) (n : Nat) : clampN t n ≤ n := by unfold clampN; omega
theorem slice_to (s : ByteArray) (k : Nat) (h : k ≤ s.size) (w : World) : (Instr.slice 9 (.string s) none (some (.int .i64 (k : Int))) none).run Tryd.prog w = .ok (.string (s.extract 0 k)) w := by
  rw [run_slice_string_to_if w 9 s .i64 (k : Int) Tryd.underlying9]
  have : 0 ≤ (k : Int) ∧ (k : Int) ≤ (s.size : Int) := by omega
  simp [this]
theorem ext0 (s : ByteArray) (k : Nat) : (s.extract 0 k).data.toList = s.data.toList.take k := by
  rw [sub_list]; simp
theorem ext0_size (s : ByteArray) (k : Nat) (h : k ≤ s.size) : (s.extract 0 k).size = k := by
  simp; omega
theorem getD_take {l : List UInt8} {k j : Nat} (h : j < k) : (l.take k).getD j 0 = l.getD j 0 := by
  rw [List.getD_eq_getElem?_getD, List.getD_eq_getElem?_getD, List.getElem?_take_of_lt h]
theorem last_bg (x : ByteArray) : ∀ k, k ≤ x.size → Lib.lastIdx x 10 k + 1 = (bgF x.data.toList k : Int)
  | 0, _ => rfl
  | k + 1, h => by
    unfold Lib.lastIdx bgF
    have e : x.data[k]! = x.data.toList.getD k 0 := by
      have hk : k < x.data.size := h
      rw [getElem!_pos x.data k hk, List.getD_eq_getElem?_getD, List.getElem?_eq_getElem (by simpa using hk)]; simp
    rw [e]
    by_cases hc : (x.data.toList.getD k 0).toNat = 10
    · rw [if_pos (by omega), if_pos hc]; simp
    · rw [if_neg (by omega), if_neg hc]; exact last_bg x k (by omega)
theorem bgF_take (l : List UInt8) (m : Nat) : ∀ k, k ≤ m → bgF (l.take m) k = bgF l k
  | 0, _ => rfl
  | k + 1, h => by unfold bgF; rw [getD_take (by omega), bgF_take l m k (by omega)]
def RetI (n : Int) (w : World) (e : Ending) (w' : World) : Prop := e = .returned (.int .i64 n) ∧ w = w'
def PlacePost (l : List UInt8) (k : Nat) (w : World) (e : Ending) (w' : World) : Prop := e = .returned (.tuple #[.int .i64 (1 + (nlC l k : Int)), .int .i64 ((k : Int) - (bgF l k : Int) + 1)]) ∧ w = w'
theorem place_ret {l : List UInt8} {k : Nat} {w : World} {a b : Int} (h1 : a = 1 + (nlC l k : Int)) (h2 : b = (k : Int) - (bgF l k : Int) + 1) : PlacePost l k w (.returned (.tuple #[.int .i64 a, .int .i64 b])) w := by
  subst h1 h2; exact ⟨rfl, rfl⟩
set_option maxRecDepth 100000 in
set_option maxHeartbeats 1000000 in
theorem place_any (s : ByteArray) (t : Int) (w : World) (hs : s.size ≤ 281474976710656) : Calls Tryd.prog 14 #[.string s, .int .i64 t] w (PlacePost s.data.toList (clampN t s.size) w) := by
  obtain ⟨k, hk⟩ : ∃ k, k = clampN t s.size := ⟨_, rfl⟩
  have hkl : k ≤ s.size := by rw [hk]; exact clampN_le _ _
  obtain ⟨x, hx⟩ : ∃ x, x = s.extract 0 k := ⟨_, rfl⟩
  have hsl := slice_to s k hkl
  rw [← hx] at hsl
  have HX := Lib.hid (show x.data.toList = s.data.toList.take k by rw [hx]; exact ext0 s k)
  have HS := Lib.hid (show x.size = k by rw [hx]; exact ext0_size s k hkl)
  have HC := Lib.hid (show (Lib.countByte x.data.toList 10 : Nat) = nlC s.data.toList k by unfold Lib.countByte nlC; rw [HX.out])
  have HB := Lib.hid (show Lib.lastIndexByte x 10 = (bgF s.data.toList k : Int) - 1 by
    unfold Lib.lastIndexByte
    have := last_bg x x.size (Nat.le_refl _)
    rw [HS.out, HX.out, bgF_take _ _ _ (Nat.le_refl _)] at this
    rw [HS.out]; omega)
  have hcl := nlC_le s.data.toList k
  have hbl := bgF_le s.data.toList k
  obtain ⟨n, hn⟩ : ∃ n, n = nlC s.data.toList k := ⟨_, rfl⟩
  obtain ⟨b, hb⟩ : ∃ b, b = bgF s.data.toList k := ⟨_, rfl⟩
  rw [← hn] at hcl
  rw [← hb] at hbl
  have C1 := Lib.hid (show ∀ w, Calls Tryd.prog 31 #[.string x, .string ⟨#[10]⟩] w (RetI (n : Int) w) from fun w => (Tryd.strings_Count_one x 10 w).mono fun _ _ ⟨h1, h2⟩ => ⟨by rw [h1, HC.out, hn], h2.symm⟩)
  have C2 := Lib.hid (show ∀ w, Calls Tryd.prog 32 #[.string x, .int .u8 10] w (RetI ((b : Int) - 1) w) from fun w => (Tryd.strings_LastIndexByte x 10 (by rw [HS.out]; omega) w).mono fun _ _ ⟨h1, h2⟩ => ⟨by rw [h1, HB.out, hb], h2.symm⟩)
  have hk2 : k ≤ 281474976710656 := by omega
  have hex : s.extract 0 (min (max t 0) (s.size : Int)).toNat = x := by
    rw [hx, hk]; unfold clampN; congr 1; omega
  rw [← hk]
  have HN := Lib.hid hn
  have HBB := Lib.hid hb
  have HEX := Lib.hid hex
  clear hx hk hn hb HC HB HX hs hex hsl
  go_enter Tryd.func14, Tryd.ntmps14
  go_upto_region 2 with (fail)
  rw [HEX.out]
  have hxz : x.size = k := HS.out
  go_wp2_with (first | (go_at_call 31; refine (C1.out _).mono ?_; rintro e w' ⟨rfl, rfl⟩) | (go_at_call 32; refine (C2.out _).mono ?_; rintro e w' ⟨rfl, rfl⟩))
  go_ret2
  exact place_ret (by rw [HN.out]) (by rw [← HBB.out]; omega)
end Go.Proofs.YtahmadelokofbaaDoor
