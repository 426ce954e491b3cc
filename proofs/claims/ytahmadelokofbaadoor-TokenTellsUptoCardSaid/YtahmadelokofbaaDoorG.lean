/- PROVED here: the contracts of together and of the functions that it answers. No condition but those in each theorem's own head. -/
import Derived.Test.YtahmadelokofbaaDoorD
import Derived.Laws.Strings2
namespace Go.Proofs.YtahmadelokofbaaDoor
open Go Go.RowKit

def nlB (c : UInt8) : Bool := c.toNat != 10
theorem clo48 (s : ByteArray) (b k : Nat) (w : World) (hk : k < s.size) (hc : w.cell? ⟨b, 0, none⟩ = some (.string s)) : Calls Tryd.prog 48 #[.int .i64 (k : Int), .pointer (some ⟨b, 0, none⟩)] w fun e w' => e = .returned (.bool (spB s[k])) ∧ w = w' := by
  go_enter Tryd.func48, Tryd.ntmps48
  go_wp2_with (go_at_call 24; refine (space_any _ _).mono ?_; rintro e w' ⟨rfl, rfl⟩)
  go_ret
  simp
theorem clo49 (s : ByteArray) (b k : Nat) (w : World) (hk : k < s.size) (hc : w.cell? ⟨b, 0, none⟩ = some (.string s)) : Calls Tryd.prog 49 #[.int .i64 (k : Int), .pointer (some ⟨b, 0, none⟩)] w fun e w' => e = .returned (.bool (nlB s[k])) ∧ w = w' := by
  have hb : nlB s[k] = ((s[k].toNat : Int) != 10) := by unfold nlB; rw [Bool.eq_iff_iff]; simp; omega
  rw [hb]; clear hb
  generalize hq : ((s[k].toNat : Int) != 10) = q at *
  go_enter Tryd.func49, Tryd.ntmps49
  go_wp2
  go_ret
  simp
theorem clo50 (s : ByteArray) (b k : Nat) (w : World) (hk : k < s.size) (hc : w.cell? ⟨b, 0, none⟩ = some (.string s)) : Calls Tryd.prog 50 #[.int .i64 (k : Int), .pointer (some ⟨b, 0, none⟩)] w fun e w' => e = .returned (.bool (wdB s[k])) ∧ w = w' := by
  go_enter Tryd.func50, Tryd.ntmps50
  go_wp2_with (go_at_call 34; refine (word_any _ _).mono ?_; rintro e w' ⟨rfl, rfl⟩)
  go_ret
  simp
theorem sub_list (s : ByteArray) (a b : Nat) : (s.extract a b).data.toList = (s.data.toList.drop a).take (b - a) := by
  rw [ByteArray.data_extract, Array.toList_extract, List.extract_eq_take_drop]
theorem slice_lay (s : ByteArray) (i j : Nat) (jj : Int) (hj : jj = (j : Int)) (h1 : i ≤ j) (h2 : j ≤ s.size) (w : World) :
    (Instr.slice 9 (.string s) (some (.int .i64 (i : Int))) (some (.int .i64 jj)) none).run Tryd.prog w = .ok (.string (s.extract i j)) w := by
  subst hj
  have := run_slice_string (P := Tryd.prog) w 9 s .i64 .i64 (i : Int) (j : Int) Tryd.underlying9 (by omega) (by omega) (by omega)
  simpa using this
set_option maxRecDepth 100000 in
theorem clo51 (s : ByteArray) (b p k : Nat) (w : World) (hp : p ≤ k) (hk : k < s.size) (hs : s.size ≤ 281474976710656) (hc : w.cell? ⟨b, 0, none⟩ = some (.string s)) (hd : w.cell? ⟨b + 1, 0, none⟩ = some (.int .i64 (p : Int))) :
    Calls Tryd.prog 51 #[.int .i64 (k : Int), .pointer (some ⟨b, 0, none⟩), .pointer (some ⟨b + 1, 0, none⟩)] w fun e w' => e = .returned (.bool (signB ((s.data.toList.drop p).take (k + 1 - p)))) ∧ w = w' := by
  have hsl := slice_lay s p (k + 1) ((k : Int) + 1) (by omega) (by omega) (by omega)
  go_enter Tryd.func51, Tryd.ntmps51
  go_wp2_with (go_at_call 38; refine (sign_l _ _).mono ?_; rintro e w' ⟨rfl, rfl⟩)
  go_ret
  exact ⟨rfl, rfl⟩
/-- the function that together answers -/
def cloV (c : UInt8) (b : Nat) : Value :=
  if spB c then .func (.func 48) #[] #[.pointer (some ⟨b, 0, none⟩)]
  else if cmB c then .func (.func 49) #[] #[.pointer (some ⟨b, 0, none⟩)]
  else if wdB c then .func (.func 50) #[] #[.pointer (some ⟨b, 0, none⟩)]
  else .func (.func 51) #[] #[.pointer (some ⟨b, 0, none⟩), .pointer (some ⟨b + 1, 0, none⟩)]
def TogPost (s : ByteArray) (p : Nat) (c : UInt8) (w : World) (e : Ending) (w' : World) : Prop :=
  e = .returned (cloV c w.heap.size) ∧ w' = (w.alloc (.cells #[.string s] 9)).alloc (.cells #[.int .i64 (p : Int)] 3)
set_option maxRecDepth 100000 in
theorem together_any (s : ByteArray) (p : Nat) (w : World) (hk : p < s.size) : Calls Tryd.prog 37 #[.string s, .int .i64 (p : Int)] w (TogPost s p s[p] w) := by
  cases h1 : spB s[p]
  · cases h2 : cmB s[p]
    · cases h3 : wdB s[p]
      · go_enter Tryd.func37, Tryd.ntmps37
        go_wp2_with (first | (go_at_call 24; refine (space_any _ _).mono ?_; rintro e w' ⟨rfl, rfl⟩) | (go_at_call 25; refine (comment_any _ _).mono ?_; rintro e w' ⟨rfl, rfl⟩) | (go_at_call 34; refine (word_any _ _).mono ?_; rintro e w' ⟨rfl, rfl⟩))
        go_ret
        exact ⟨by simp only [cloV, h1, h2, h3, Bool.false_eq_true, if_false]; rfl, rfl⟩
      · go_enter Tryd.func37, Tryd.ntmps37
        go_wp2_with (first | (go_at_call 24; refine (space_any _ _).mono ?_; rintro e w' ⟨rfl, rfl⟩) | (go_at_call 25; refine (comment_any _ _).mono ?_; rintro e w' ⟨rfl, rfl⟩) | (go_at_call 34; refine (word_any _ _).mono ?_; rintro e w' ⟨rfl, rfl⟩))
        go_ret
        exact ⟨by simp only [cloV, h1, h2, h3, Bool.false_eq_true, if_false, if_true]; rfl, rfl⟩
    · go_enter Tryd.func37, Tryd.ntmps37
      go_wp2_with (first | (go_at_call 24; refine (space_any _ _).mono ?_; rintro e w' ⟨rfl, rfl⟩) | (go_at_call 25; refine (comment_any _ _).mono ?_; rintro e w' ⟨rfl, rfl⟩) | (go_at_call 34; refine (word_any _ _).mono ?_; rintro e w' ⟨rfl, rfl⟩))
      go_ret
      exact ⟨by simp only [cloV, h1, h2, Bool.false_eq_true, if_false, if_true]; rfl, rfl⟩
  · go_enter Tryd.func37, Tryd.ntmps37
    go_wp2_with (first | (go_at_call 24; refine (space_any _ _).mono ?_; rintro e w' ⟨rfl, rfl⟩) | (go_at_call 25; refine (comment_any _ _).mono ?_; rintro e w' ⟨rfl, rfl⟩) | (go_at_call 34; refine (word_any _ _).mono ?_; rintro e w' ⟨rfl, rfl⟩))
    go_ret
    exact ⟨by simp only [cloV, h1, if_true]; rfl, rfl⟩
end Go.Proofs.YtahmadelokofbaaDoor
