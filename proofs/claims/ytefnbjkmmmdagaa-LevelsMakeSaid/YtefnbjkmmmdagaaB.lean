/- PROVED here: contracts of slices.Index and slices.Contains at strings. No condition but those in each theorem's own head. -/
import Derived.Test.YtefnbjkmmmdagaaA
namespace Go.Proofs.Ytefnbjkmmmdagaa
open Go Go.RowKit

/-- where a thing first lies in a list, or -1 -/
def idxO {α : Type} [DecidableEq α] (l : List α) (x : α) : Int := match l.findIdx? (fun y => decide (y = x)) with | some i => (i : Int) | none => -1
theorem idxO_hit {α : Type} [DecidableEq α] {l : List α} {x : α} {i : Nat} (hi : i < l.length) (he : l[i] = x) (h : ∀ j (hj : j < l.length), j < i → l[j] ≠ x) : idxO l x = i := by
  unfold idxO
  have : l.findIdx? (fun y => decide (y = x)) = some i := by
    rw [List.findIdx?_eq_some_iff_getElem]
    exact ⟨hi, by simpa using he, fun j hj => by simpa using h j (by omega) hj⟩
  rw [this]
theorem idxO_miss {α : Type} [DecidableEq α] {l : List α} {x : α} (h : ∀ j (hj : j < l.length), l[j] ≠ x) : idxO l x = -1 := by
  unfold idxO
  have : l.findIdx? (fun y => decide (y = x)) = none := by
    rw [List.findIdx?_eq_none_iff]
    intro y hy
    obtain ⟨j, hj, rfl⟩ := List.getElem_of_mem hy
    simpa using h j hj
  rw [this]
theorem idxO_spec {α : Type} [DecidableEq α] (l : List α) (x : α) : (idxO l x = -1 ∧ ∀ j (hj : j < l.length), l[j] ≠ x) ∨ ∃ (i : Nat) (hi : i < l.length), idxO l x = i ∧ l[i] = x ∧ ∀ j (hj : j < l.length), j < i → l[j] ≠ x := by
  cases h : l.findIdx? (fun y => decide (y = x)) with
  | none =>
    rw [List.findIdx?_eq_none_iff] at h
    have h2 : ∀ j (hj : j < l.length), l[j] ≠ x := fun j hj => by simpa using h _ (List.getElem_mem hj)
    exact .inl ⟨idxO_miss h2, h2⟩
  | some i =>
    rw [List.findIdx?_eq_some_iff_getElem] at h
    obtain ⟨hi, h1, h2⟩ := h
    have e1 : l[i] = x := by simpa using h1
    have e2 : ∀ j (hj : j < l.length), j < i → l[j] ≠ x := fun j hj hji => by simpa using h2 j hji
    exact .inr ⟨i, hi, idxO_hit hi e1 e2, e1, e2⟩
/-- a slice of strings that reads as a list, nil let in -/
def Strs (w : World) (A : Option Addr) (l : List ByteArray) : Prop :=
  0 < l.length → ∃ b off, A = some ⟨b, off, none⟩ ∧ b < w.heap.size ∧ ∀ j (hj : j < l.length), w.cell? ⟨b, off + j, none⟩ = some (.string l[j])
theorem Strs.below {w w' : World} {A : Option Addr} {l : List ByteArray} (h : Strs w A l) (hb : Below w.heap.size w w') : Strs w' A l := fun h0 => by
  obtain ⟨b, off, e, hl, hc⟩ := h h0
  exact ⟨b, off, e, Nat.lt_of_lt_of_le hl hb.size, fun j hj => (hb.cell (p := ⟨b, off + j, none⟩) hl).trans (hc j hj)⟩
theorem Strs.take {w : World} {A : Option Addr} {l : List ByteArray} (h : Strs w A l) (k : Nat) : Strs w A (l.take k) := fun h0 => by
  have hl : 0 < l.length := by simp at h0; omega
  obtain ⟨b, off, e, hb, hc⟩ := h hl
  refine ⟨b, off, e, hb, fun j hj => ?_⟩
  have hj' : j < l.length := by simp at hj; omega
  rw [hc j hj']; simp

theorem str_eq {s x : ByteArray} : (s.toList == x.toList) = decide (x = s) := by
  rw [ByteArray.toList_eq, ByteArray.toList_eq, Bool.eq_iff_iff, beq_iff_eq, decide_eq_true_eq]
  constructor
  · intro h; apply ByteArray.ext; exact (Array.toList_inj.1 h).symm
  · rintro rfl; rfl
set_option maxRecDepth 100000 in
set_option maxHeartbeats 2000000 in
theorem index_core (A : Option Addr) (c : Nat) (l : List ByteArray) (s : ByteArray) (r : Int) (H : Hid (idxO l s = r)) (w : World) (hl : l.length ≤ 1000) (hA : Strs w A l) :
    Calls Try.prog 35 #[.slice A l.length c, .string s] w fun e w' => e = .returned (.int .i64 r) ∧ w = w' := by
  have HA := Lib.hid hA
  clear hA
  go_enter Try.func35, Try.ntmps35
  go_wp2
  go_loop [8] (fun i => ∃ k : Nat, k ≤ l.length ∧ i = .int .i64 (k : Int) ∧ Hid (∀ j (hj : j < l.length), j < k → l[j] ≠ s)) (fun i => l.length - (intOf i).toNat)
  case atStart => exact ⟨0, by omega, rfl, Lib.hid (fun j _ h => by omega)⟩
  case round =>
    obtain ⟨k, hk, rfl, HN⟩ := hrel
    by_cases hlt : k < l.length
    · have hlz : (k : Int) < (l.length : Int) := by omega
      obtain ⟨b, off, rfl, hb, hc⟩ := HA.out (by omega)
      have hck := hc k hlt
      clear hc
      by_cases he : l[k] = s
      · have HR := Lib.hid ((idxO_hit hlt he (fun j hj h => HN.out j hj h)).symm.trans H.out)
        generalize l[k] = x at *
        have hq : (s.toList == x.toList) = true := by rw [str_eq]; simpa using he
        clear he
        go_wp2
        go_ret
        exact ⟨ret_int HR.out, rfl⟩
      · have HN2 := Lib.hid (fun j (hj : j < l.length) (h : j < k + 1) => show l[j] ≠ s by
          by_cases e : j = k
          · subst e; exact he
          · exact HN.out j hj (by omega))
        generalize l[k] = x at *
        have hq : (s.toList == x.toList) = false := by rw [str_eq]; simpa using he
        clear he
        go_wp2
        go_round
        case rel => exact ⟨k + 1, by omega, by go_num, HN2⟩
        case measure => simp [intOf]; omega
    · have hlz : ¬ (k : Int) < (l.length : Int) := by omega
      have HR := Lib.hid ((idxO_miss (fun j hj => HN.out j hj (by omega))).symm.trans H.out)
      go_wp2
      go_ret
      exact ⟨ret_int HR.out, rfl⟩
theorem index_str (A : Option Addr) (c : Nat) (l : List ByteArray) (s : ByteArray) (w : World) (hl : l.length ≤ 1000) (hA : Strs w A l) :
    Calls Try.prog 35 #[.slice A l.length c, .string s] w fun e w' => e = .returned (.int .i64 (idxO l s)) ∧ w = w' := index_core A c l s _ (Lib.hid rfl) w hl hA
theorem contains_str (A : Option Addr) (c : Nat) (l : List ByteArray) (s : ByteArray) (w : World) (hl : l.length ≤ 1000) (hA : Strs w A l) :
    Calls Try.prog 51 #[.slice A l.length c, .string s] w fun e w' => e = .returned (.bool (decide (0 ≤ idxO l s))) ∧ w = w' := by
  have HI := Lib.hid (fun w h => index_str A c l s w hl h)
  have HA := Lib.hid hA
  clear hA
  generalize idxO l s = r at *
  go_enter Try.func51, Try.ntmps51
  go_wp2_with (go_at_call 35; refine (HI.out _ HA.out).mono ?_; rintro e w' ⟨rfl, rfl⟩)
  go_ret
  exact ⟨rfl, rfl⟩
/-- may a byte stand in a name -/
def okc (c : UInt8) : Bool := letB c || (digB c || c == 95)
/-- may a string be the name of a level -/
def nameB (s : ByteArray) : Bool := decide (0 < s.size) && (decide (s.size ≤ 20) && (letB s[0]! && (List.range s.size).all fun j => okc s[j]!))
theorem get_bang (s : ByteArray) (k : Nat) (h : k < s.size) : s[k]! = s[k] := by simp [h]
set_option maxRecDepth 100000 in
set_option maxHeartbeats 2000000 in
theorem name_core (s : ByteArray) (r : Bool) (H : Hid (nameB s = r)) (w : World) (hs : s.size ≤ maxLen) : Calls Try.prog 12 #[.string s] w fun e w' => e = .returned (.bool r) ∧ w = w' := by
  unfold maxLen at hs
  by_cases h0 : s.size = 0
  · have hr : r = false := by rw [← H.out]; unfold nameB; rw [decide_eq_false (by omega)]; rfl
    subst hr
    go_enter Try.func12, Try.ntmps12
    go_wp2
    go_ret
    exact ⟨rfl, rfl⟩
  · have hq0 : ((s.size : Int) == 0) = false := by rw [beq_eq_false_iff_ne]; omega
    by_cases h20 : 20 < s.size
    · have hr : r = false := by rw [← H.out]; unfold nameB; rw [decide_eq_false (p := s.size ≤ 20) (by omega)]; simp
      subst hr
      have hz20 : (20 : Int) < (s.size : Int) := by omega
      go_enter Try.func12, Try.ntmps12
      go_wp2
      go_ret
      exact ⟨rfl, rfl⟩
    · have hz20 : ¬ (20 : Int) < (s.size : Int) := by omega
      have hp : 0 < s.size := by omega
      have HL := Lib.hid (fun w => letter_any s[0] w)
      cases hlb : letB s[0] with
      | false =>
        have hr : r = false := by rw [← H.out]; unfold nameB; rw [get_bang s 0 hp, hlb]; simp
        subst hr
        rw [hlb] at HL
        clear hlb
        go_enter Try.func12, Try.ntmps12
        go_wp2_with (go_at_call 44; refine (HL.out _).mono ?_; rintro e w' ⟨rfl, rfl⟩)
        go_ret
        exact ⟨rfl, rfl⟩
      | true =>
        have HB := Lib.hid (show ∀ b : Bool, (List.range s.size).all (fun j => okc s[j]!) = b → b = r by
          rintro _ rfl; rw [← H.out]; unfold nameB; rw [get_bang s 0 hp, hlb, decide_eq_true hp, decide_eq_true (p := s.size ≤ 20) (by omega)]; rfl)
        rw [hlb] at HL
        clear hlb
        go_enter Try.func12, Try.ntmps12
        go_wp2_with (go_at_call 44; refine (HL.out _).mono ?_; rintro e w' ⟨rfl, rfl⟩)
        go_loop [20] (fun i => ∃ k : Nat, k ≤ s.size ∧ i = .int .i64 (k : Int) ∧ Hid (∀ j, j < k → okc s[j]! = true)) (fun i => s.size - (intOf i).toNat)
        case atStart => exact ⟨0, by omega, rfl, Lib.hid (fun j h => by omega)⟩
        case round =>
          obtain ⟨k, hk, rfl, HN⟩ := hrel
          clear HL
          by_cases hlt : k < s.size
          · have hlz : (k : Int) < (s.size : Int) := by omega
            have HL := Lib.hid (fun w => letter_any s[k] w)
            have HD := Lib.hid (fun w => digit_any s[k] w)
            have HE := Lib.hid (get_bang s k hlt)
            have next : okc s[k] = true → Hid (∀ j, j < k + 1 → okc s[j]! = true) := fun h => Lib.hid (fun j hj => by
              by_cases e : j = k
              · subst e; rw [HE.out]; exact h
              · exact HN.out j (by omega))
            cases h1 : letB s[k] with
            | true =>
              have HX := next (by unfold okc; rw [h1]; rfl)
              rw [h1] at HL
              clear h1 next
              go_wp2_with (go_at_call 44; refine (HL.out _).mono ?_; rintro e w' ⟨rfl, rfl⟩)
              go_round
              case rel => exact ⟨k + 1, by omega, by go_num, HX⟩
              case measure => simp [intOf]; omega
            | false =>
              cases h2 : digB s[k] with
              | true =>
                have HX := next (by unfold okc; rw [h1, h2]; rfl)
                rw [h1] at HL
                rw [h2] at HD
                clear h1 h2 next
                go_wp2_with (first
                  | (go_at_call 44; refine (HL.out _).mono ?_; rintro e w' ⟨rfl, rfl⟩)
                  | (go_at_call 45; refine (HD.out _).mono ?_; rintro e w' ⟨rfl, rfl⟩))
                go_round
                case rel => exact ⟨k + 1, by omega, by go_num, HX⟩
                case measure => simp [intOf]; omega
              | false =>
                by_cases h3 : s[k].toNat = 95
                · have HX := next (by
                    have : s[k] = 95 := UInt8.toNat_inj.1 h3
                    unfold okc; rw [h1, h2, this]; rfl)
                  rw [h1] at HL
                  rw [h2] at HD
                  clear h1 h2 next
                  have hq : ((s[k].toNat : Int) != 95) = false := by rw [h3]; rfl
                  clear h3
                  go_wp2_with (first
                    | (go_at_call 44; refine (HL.out _).mono ?_; rintro e w' ⟨rfl, rfl⟩)
                    | (go_at_call 45; refine (HD.out _).mono ?_; rintro e w' ⟨rfl, rfl⟩))
                  go_round
                  case rel => exact ⟨k + 1, by omega, by go_num, HX⟩
                  case measure => simp [intOf]; omega
                · have hr : false = r := HB.out _ (by
                    rw [List.all_eq_false]
                    refine ⟨k, by simpa using hlt, ?_⟩
                    rw [HE.out]; unfold okc; rw [h1, h2]
                    have : ¬ s[k] = 95 := fun e => h3 (by rw [e]; rfl)
                    simpa using this)
                  subst hr
                  rw [h1] at HL
                  rw [h2] at HD
                  clear h1 h2 next
                  have hq : ((s[k].toNat : Int) != 95) = true := by rw [bne_iff_ne]; omega
                  clear h3
                  go_wp2_with (first
                    | (go_at_call 44; refine (HL.out _).mono ?_; rintro e w' ⟨rfl, rfl⟩)
                    | (go_at_call 45; refine (HD.out _).mono ?_; rintro e w' ⟨rfl, rfl⟩))
                  go_ret
                  exact ⟨rfl, rfl⟩
          · have hlz : ¬ (k : Int) < (s.size : Int) := by omega
            have hr : true = r := HB.out _ (by
              rw [List.all_eq_true]; intro j hj
              exact HN.out j (by simp at hj; omega))
            subst hr
            go_wp2
            go_ret
            exact ⟨rfl, rfl⟩
theorem name_any (s : ByteArray) (w : World) (hs : s.size ≤ maxLen) : Calls Try.prog 12 #[.string s] w fun e w' => e = .returned (.bool (nameB s)) ∧ w = w' := name_core s _ (Lib.hid rfl) w hs
end Go.Proofs.Ytefnbjkmmmdagaa
