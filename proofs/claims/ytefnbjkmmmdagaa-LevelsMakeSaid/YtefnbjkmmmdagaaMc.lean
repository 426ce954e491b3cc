/- PROVED here: contracts of the document's Name, Bottom and Top. No condition but those in each theorem's own head. -/
import Derived.Test.YtefnbjkmmmdagaaMb
namespace Go.Proofs.Ytefnbjkmmmdagaa
open Go Go.RowKit

def nmTo (s : ByteArray) (k : Nat) : Prop := (∀ j, j < k → okc s[j]! = true) ∧ (0 < k → letB s[0]! = true)
theorem nmTo_all {s : ByteArray} {k : Nat} (h : nmTo s k) (hk : k = s.size) : nameB s = (decide (1 ≤ s.size) && decide (s.size ≤ 20)) := by
  unfold nameB
  have e : ((List.range s.size).all fun j => okc s[j]!) = true := by
    rw [List.all_eq_true]; intro j hj; exact h.1 j (by have := List.mem_range.1 hj; omega)
  rw [e]
  by_cases h0 : 0 < s.size
  · rw [h.2 (by omega), decide_eq_true h0, decide_eq_true (by omega : 1 ≤ s.size)]; simp
  · rw [decide_eq_false h0, decide_eq_false (by omega : ¬ 1 ≤ s.size)]; rfl
theorem nm_bad {s : ByteArray} {k : Nat} (hk : k < s.size) (h : okc s[k] = false) : nameB s = false := by
  unfold nameB
  have e : ((List.range s.size).all fun j => okc s[j]!) = false := by
    rw [List.all_eq_false]; exact ⟨k, List.mem_range.2 hk, by rw [get_bang s k hk, h]; simp⟩
  rw [e]; simp
theorem nm_bad0 {s : ByteArray} (hk : 0 < s.size) (h : letB s[0] = false) : nameB s = false := by
  unfold nameB; rw [get_bang s 0 hk, h]; simp
theorem nmTo_snoc {s : ByteArray} {k : Nat} (h : nmTo s k) (hk : k < s.size) (ho : okc s[k] = true) (h0 : k = 0 → letB s[k] = true) : nmTo s (k + 1) :=
  ⟨fun j hj => by
    by_cases e : j = k
    · subst e; rw [get_bang s j hk]; exact ho
    · exact h.1 j (by omega),
   fun _ => by
    by_cases e : k = 0
    · subst e; rw [get_bang s 0 hk]; exact h0 rfl
    · exact h.2 (by omega)⟩
theorem classes (c : UInt8) : (97 ≤ (c.toNat : Int) ∧ (c.toNat : Int) ≤ 122) ∨ (c.toNat : Int) < 48 ∨ (48 ≤ (c.toNat : Int) ∧ (c.toNat : Int) ≤ 57) ∨ (57 < (c.toNat : Int) ∧ (c.toNat : Int) < 97 ∧ (c.toNat : Int) ≠ 95) ∨ (c.toNat : Int) = 95 ∨ 122 < (c.toNat : Int) := by omega
set_option maxRecDepth 100000 in
set_option maxHeartbeats 2000000 in
theorem rname_any (s : ByteArray) (w : World) (hs : s.size ≤ 281474976710656) : Calls Try.prog 13 #[.string s] w fun e w' => e = .returned (.bool (nameB s)) ∧ w = w' := by
  go_enter Try.func13, Try.ntmps13
  go_wp2_with (fail)
  go_loop [3] (fun i => ∃ k : Nat, k ≤ s.size ∧ i = .int .i64 (k : Int) ∧ nmTo s k) (fun i => s.size - (intOf i).toNat)
  case atStart => exact ⟨0, Nat.zero_le _, rfl, fun j h => by omega, fun h => by omega⟩
  case round =>
    obtain ⟨k, hk, rfl, hN⟩ := hrel
    by_cases hlt : k < s.size
    · have hlz : (k : Int) < (s.size : Int) := by omega
      rcases classes s[k] with h | h | h | h | h | h
      · have HN := Lib.hid (nmTo_snoc hN hlt (by unfold okc letB; simp; omega) (fun _ => by unfold letB; simp; omega))
        obtain ⟨f1, f2⟩ := h
        clear hN
        go_wp2
        go_round
        case rel => exact ⟨k + 1, by omega, by go_num, HN.out⟩
        case measure => simp [intOf]; omega
      · have HLf := Lib.hid (show letB s[k] = false by unfold letB; simp; omega)
        have f1 : ¬ 97 ≤ (s[k].toNat : Int) := by omega
        have f3 : (s[k].toNat : Int) < 48 := by omega
        have q1 : ((s[k].toNat : Int) != 95) = true := by rw [bne_iff_ne]; omega
        have q2 : ¬ (s[k].toNat : Int) = 95 := by omega
        have HOf := Lib.hid (show okc s[k] = false by unfold okc letB digB; simp [← UInt8.toNat_inj]; omega)
        clear h
        by_cases h0 : k = 0
        · subst h0
          have HF := Lib.hid (nm_bad0 hlt HLf.out)
          go_wp2
          go_ret
          exact ⟨ret_bool HF.out.symm, rfl⟩
        · have qk : ((k : Int) == 0) = false := beq_eq_false_iff_ne.2 (by omega)
          have qk2 : ¬ (k : Int) = 0 := by omega
          have HF := Lib.hid (nm_bad hlt HOf.out)
          clear hN h0
          go_wp2
          go_ret
          exact ⟨ret_bool HF.out.symm, rfl⟩
      · have HLf := Lib.hid (show letB s[k] = false by unfold letB; simp; omega)
        have f1 : ¬ 97 ≤ (s[k].toNat : Int) := by omega
        have f3 : ¬ (s[k].toNat : Int) < 48 := by omega
        have f4 : ¬ 57 < (s[k].toNat : Int) := by omega
        have HOt := Lib.hid (show okc s[k] = true by unfold okc letB digB; simp [← UInt8.toNat_inj]; omega)
        clear h
        by_cases h0 : k = 0
        · subst h0
          have HF := Lib.hid (nm_bad0 hlt HLf.out)
          go_wp2
          go_ret
          exact ⟨ret_bool HF.out.symm, rfl⟩
        · have qk : ((k : Int) == 0) = false := beq_eq_false_iff_ne.2 (by omega)
          have qk2 : ¬ (k : Int) = 0 := by omega
          have HN := Lib.hid (nmTo_snoc hN hlt HOt.out (fun e => absurd e h0))
          clear hN h0
          go_wp2
          go_round
          case rel => exact ⟨k + 1, by omega, by go_num, HN.out⟩
          case measure => simp [intOf]; omega
      · have HLf := Lib.hid (show letB s[k] = false by unfold letB; simp; omega)
        have f1 : ¬ 97 ≤ (s[k].toNat : Int) := by omega
        have f3 : ¬ (s[k].toNat : Int) < 48 := by omega
        have f4 : 57 < (s[k].toNat : Int) := by omega
        have q1 : ((s[k].toNat : Int) != 95) = true := by rw [bne_iff_ne]; omega
        have q2 : ¬ (s[k].toNat : Int) = 95 := by omega
        have HOf := Lib.hid (show okc s[k] = false by unfold okc letB digB; simp [← UInt8.toNat_inj]; omega)
        clear h
        by_cases h0 : k = 0
        · subst h0
          have HF := Lib.hid (nm_bad0 hlt HLf.out)
          go_wp2
          go_ret
          exact ⟨ret_bool HF.out.symm, rfl⟩
        · have qk : ((k : Int) == 0) = false := beq_eq_false_iff_ne.2 (by omega)
          have qk2 : ¬ (k : Int) = 0 := by omega
          have HF := Lib.hid (nm_bad hlt HOf.out)
          clear hN h0
          go_wp2
          go_ret
          exact ⟨ret_bool HF.out.symm, rfl⟩
      · have HLf := Lib.hid (show letB s[k] = false by unfold letB; simp; omega)
        have f1 : ¬ 97 ≤ (s[k].toNat : Int) := by omega
        have f3 : ¬ (s[k].toNat : Int) < 48 := by omega
        have f4 : 57 < (s[k].toNat : Int) := by omega
        have q1 : ((s[k].toNat : Int) != 95) = false := by rw [h]; rfl
        have HOt := Lib.hid (show okc s[k] = true by unfold okc letB digB; simp [← UInt8.toNat_inj]; omega)
        clear h
        by_cases h0 : k = 0
        · subst h0
          have HF := Lib.hid (nm_bad0 hlt HLf.out)
          go_wp2
          go_ret
          exact ⟨ret_bool HF.out.symm, rfl⟩
        · have qk : ((k : Int) == 0) = false := beq_eq_false_iff_ne.2 (by omega)
          have qk2 : ¬ (k : Int) = 0 := by omega
          have HN := Lib.hid (nmTo_snoc hN hlt HOt.out (fun e => absurd e h0))
          clear hN h0
          go_wp2
          go_round
          case rel => exact ⟨k + 1, by omega, by go_num, HN.out⟩
          case measure => simp [intOf]; omega
      · have HLf := Lib.hid (show letB s[k] = false by unfold letB; simp; omega)
        have f1 : 97 ≤ (s[k].toNat : Int) := by omega
        have f2 : ¬ (s[k].toNat : Int) ≤ 122 := by omega
        have f3 : ¬ (s[k].toNat : Int) < 48 := by omega
        have f4 : 57 < (s[k].toNat : Int) := by omega
        have q1 : ((s[k].toNat : Int) != 95) = true := by rw [bne_iff_ne]; omega
        have q2 : ¬ (s[k].toNat : Int) = 95 := by omega
        have HOf := Lib.hid (show okc s[k] = false by unfold okc letB digB; simp [← UInt8.toNat_inj]; omega)
        clear h
        by_cases h0 : k = 0
        · subst h0
          have HF := Lib.hid (nm_bad0 hlt HLf.out)
          go_wp2
          go_ret
          exact ⟨ret_bool HF.out.symm, rfl⟩
        · have qk : ((k : Int) == 0) = false := beq_eq_false_iff_ne.2 (by omega)
          have qk2 : ¬ (k : Int) = 0 := by omega
          have HF := Lib.hid (nm_bad hlt HOf.out)
          clear hN h0
          go_wp2
          go_ret
          exact ⟨ret_bool HF.out.symm, rfl⟩
    · have hlz : ¬ (k : Int) < (s.size : Int) := by omega
      have HF := Lib.hid (nmTo_all hN (by omega))
      clear hN
      by_cases h1 : 1 ≤ s.size
      · have z1 : (1 : Int) ≤ (s.size : Int) := by omega
        by_cases h2 : s.size ≤ 20
        · have z2 : (s.size : Int) ≤ 20 := by omega
          go_wp2
          go_ret
          exact ⟨ret_bool (by rw [HF.out, decide_eq_true h1, decide_eq_true h2]; simp), rfl⟩
        · have z2 : ¬ (s.size : Int) ≤ 20 := by omega
          go_wp2
          go_ret
          exact ⟨ret_bool (by rw [HF.out, decide_eq_false h2]; simp), rfl⟩
      · have z1 : ¬ (1 : Int) ≤ (s.size : Int) := by omega
        go_wp2
        go_ret
        exact ⟨ret_bool (by rw [HF.out, decide_eq_false h1]; simp), rfl⟩
end Go.Proofs.Ytefnbjkmmmdagaa
