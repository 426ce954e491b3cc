/- PROVED here: the contract of pieceEnd. No condition but those in each theorem's own head. -/
import Derived.Test.YtahmadelokofbaaDoorG
namespace Go.Proofs.YtahmadelokofbaaDoor
open Go Go.RowKit

def AllIn (q : UInt8 → Bool) (l : List UInt8) (a k : Nat) : Prop := ∀ j (h : j < l.length), a ≤ j → j < k → q l[j] = true
theorem AllIn.nil (q : UInt8 → Bool) (l : List UInt8) (a : Nat) : AllIn q l a a := fun j _ h1 h2 => by omega
theorem AllIn.snoc {q : UInt8 → Bool} {l : List UInt8} {a k : Nat} (h : AllIn q l a k) (hk : ∀ h : k < l.length, q l[k] = true) : AllIn q l a (k + 1) := fun j hj h1 h2 => by
  by_cases e : j = k
  · subst e; exact hk hj
  · exact h j hj h1 (by omega)
theorem tw_len {q : UInt8 → Bool} {l : List UInt8} {a k : Nat} (ha : AllIn q l a k) (h1 : a ≤ k) (h2 : k ≤ l.length) (hend : ∀ h : k < l.length, q l[k] = false) : ((l.drop a).takeWhile q).length = k - a := by
  have e : l.drop a = (l.drop a).take (k - a) ++ l.drop k := by
    conv => lhs; rw [← List.take_append_drop (k - a) (l.drop a)]
    rw [List.drop_drop, show a + (k - a) = k by omega]
  rw [e, List.takeWhile_append_of_pos]
  · have h3 : (l.drop k).takeWhile q = [] := by
      by_cases hk : k < l.length
      · rw [List.drop_eq_getElem_cons hk, List.takeWhile_cons, hend hk]; rfl
      · rw [List.drop_of_length_le (by omega)]; rfl
    rw [h3]; simp; omega
  · intro x hx
    obtain ⟨i, hi, rfl⟩ := List.getElem_of_mem hx
    simp at hi ⊢
    exact ha (a + i) (by omega) (by omega) (by omega)
theorem getD_get (s : ByteArray) (p : Nat) (h : p < s.size) : s.data.toList.getD p 0 = s[p] := by
  rw [List.getD_eq_getElem?_getD, List.getElem?_eq_getElem (by simpa using h)]; rfl
/-- where the piece ends that begins at a place -/
def peF (l : List UInt8) (p : Nat) : Nat :=
  p + 1 + (if spB (l.getD p 0) then ((l.drop (p + 1)).takeWhile spB).length else if cmB (l.getD p 0) then ((l.drop (p + 1)).takeWhile nlB).length else if wdB (l.getD p 0) then ((l.drop (p + 1)).takeWhile wdB).length
    else if signB ((l.drop p).take 2) = true ∧ p + 1 < l.length then 1 else 0)
def PePost (l : List UInt8) (p : Nat) (w : World) (e : Ending) (w' : World) : Prop := e = .returned (.int .i64 (peF l p : Int)) ∧ Below w.heap.size w w'
set_option maxRecDepth 100000 in
set_option maxHeartbeats 1000000 in
theorem piece_sp (s : ByteArray) (p : Nat) (w : World) (hp : p < s.size) (hs : s.size ≤ 281474976710656) (h1 : spB s[p] = true) : Calls Tryd.prog 23 #[.string s, .int .i64 (p : Int)] w (PePost s.data.toList p w) := by
  have hv : cloV s[p] w.heap.size = .func (.func 48) #[] #[.pointer (some ⟨w.heap.size, 0, none⟩)] := by simp only [cloV, h1, if_true]
  have HG := Lib.hid (getD_get s p hp)
  have HK := Lib.hid (show peF s.data.toList p = p + 1 + ((s.data.toList.drop (p + 1)).takeWhile spB).length by unfold peF; rw [HG.out]; simp only [h1, if_true])
  have HV := Lib.hid hv
  clear hv h1  
  go_enter Tryd.func23, Tryd.ntmps23
  go_wp2_with (go_at_call 37; refine (together_any s p _ hp).mono ?_)
  rintro e w1 ⟨rfl, hw⟩
  rw [HV.out]
  have hc : w1.cell? ⟨w.heap.size, 0, none⟩ = some (.string s) := by rw [hw]; simp
  have hb : Below w.heap.size w w1 := by rw [hw]; exact (heap1 w _).alloc (by simp) _
  have HC := Lib.hid hc
  clear hw hc
  go_wp2
  go_loop [6] (fun i => ∃ k : Nat, p + 1 ≤ k ∧ k ≤ s.size ∧ i = .int .i64 (k : Int) ∧ AllIn spB s.data.toList (p + 1) k) (fun i => s.size - (intOf i).toNat)
  case atStart => exact ⟨p + 1, Nat.le_refl _, by omega, by go_num, AllIn.nil _ _ _⟩
  case round =>
    obtain ⟨k, hk1, hk2, rfl, ha⟩ := hrel
    by_cases hlt : k < s.size
    · have hlz : (k : Int) < (s.size : Int) := by omega
      cases hq : spB s[k]
      · have HQ := Lib.hid hq
        go_wp2_with (go_at_call 48; refine (clo48 s _ k _ hlt HC.out).mono ?_; rintro e w' ⟨rfl, rfl⟩)
        go_ret
        exact ⟨ret_int (by rw [HK.out, tw_len ha hk1 (by simpa using hk2) (fun _ => by simpa [ByteArray.getElem_eq_getElem_data] using HQ.out)]; omega), hb⟩
      · have HQ := Lib.hid hq
        go_wp2_with (go_at_call 48; refine (clo48 s _ k _ hlt HC.out).mono ?_; rintro e w' ⟨rfl, rfl⟩)
        go_round
        case rel => exact ⟨k + 1, by omega, by omega, by go_num, ha.snoc (fun _ => by simpa [ByteArray.getElem_eq_getElem_data] using HQ.out)⟩
        case measure => simp [intOf]; omega
    · have hlz : ¬ (k : Int) < (s.size : Int) := by omega
      go_wp2
      go_ret
      exact ⟨ret_int (by rw [HK.out, tw_len ha hk1 (by simpa using hk2) (fun h => absurd h (by simpa using hlt))]; omega), hb⟩
set_option maxRecDepth 100000 in
set_option maxHeartbeats 1000000 in
theorem piece_cm (s : ByteArray) (p : Nat) (w : World) (hp : p < s.size) (hs : s.size ≤ 281474976710656) (h1 : spB s[p] = false) (h2 : cmB s[p] = true) : Calls Tryd.prog 23 #[.string s, .int .i64 (p : Int)] w (PePost s.data.toList p w) := by
  have hv : cloV s[p] w.heap.size = .func (.func 49) #[] #[.pointer (some ⟨w.heap.size, 0, none⟩)] := by simp only [cloV, h1, h2, Bool.false_eq_true, if_false, if_true]
  have HG := Lib.hid (getD_get s p hp)
  have HK := Lib.hid (show peF s.data.toList p = p + 1 + ((s.data.toList.drop (p + 1)).takeWhile nlB).length by unfold peF; rw [HG.out]; simp only [h1, h2, Bool.false_eq_true, if_false, if_true])
  have HV := Lib.hid hv
  clear hv h1 h2 
  go_enter Tryd.func23, Tryd.ntmps23
  go_wp2_with (go_at_call 37; refine (together_any s p _ hp).mono ?_)
  rintro e w1 ⟨rfl, hw⟩
  rw [HV.out]
  have hc : w1.cell? ⟨w.heap.size, 0, none⟩ = some (.string s) := by rw [hw]; simp
  have hb : Below w.heap.size w w1 := by rw [hw]; exact (heap1 w _).alloc (by simp) _
  have HC := Lib.hid hc
  clear hw hc
  go_wp2
  go_loop [6] (fun i => ∃ k : Nat, p + 1 ≤ k ∧ k ≤ s.size ∧ i = .int .i64 (k : Int) ∧ AllIn nlB s.data.toList (p + 1) k) (fun i => s.size - (intOf i).toNat)
  case atStart => exact ⟨p + 1, Nat.le_refl _, by omega, by go_num, AllIn.nil _ _ _⟩
  case round =>
    obtain ⟨k, hk1, hk2, rfl, ha⟩ := hrel
    by_cases hlt : k < s.size
    · have hlz : (k : Int) < (s.size : Int) := by omega
      cases hq : nlB s[k]
      · have HQ := Lib.hid hq
        go_wp2_with (go_at_call 49; refine (clo49 s _ k _ hlt HC.out).mono ?_; rintro e w' ⟨rfl, rfl⟩)
        go_ret
        exact ⟨ret_int (by rw [HK.out, tw_len ha hk1 (by simpa using hk2) (fun _ => by simpa [ByteArray.getElem_eq_getElem_data] using HQ.out)]; omega), hb⟩
      · have HQ := Lib.hid hq
        go_wp2_with (go_at_call 49; refine (clo49 s _ k _ hlt HC.out).mono ?_; rintro e w' ⟨rfl, rfl⟩)
        go_round
        case rel => exact ⟨k + 1, by omega, by omega, by go_num, ha.snoc (fun _ => by simpa [ByteArray.getElem_eq_getElem_data] using HQ.out)⟩
        case measure => simp [intOf]; omega
    · have hlz : ¬ (k : Int) < (s.size : Int) := by omega
      go_wp2
      go_ret
      exact ⟨ret_int (by rw [HK.out, tw_len ha hk1 (by simpa using hk2) (fun h => absurd h (by simpa using hlt))]; omega), hb⟩
set_option maxRecDepth 100000 in
set_option maxHeartbeats 1000000 in
theorem piece_wd (s : ByteArray) (p : Nat) (w : World) (hp : p < s.size) (hs : s.size ≤ 281474976710656) (h1 : spB s[p] = false) (h2 : cmB s[p] = false) (h3 : wdB s[p] = true) : Calls Tryd.prog 23 #[.string s, .int .i64 (p : Int)] w (PePost s.data.toList p w) := by
  have hv : cloV s[p] w.heap.size = .func (.func 50) #[] #[.pointer (some ⟨w.heap.size, 0, none⟩)] := by simp only [cloV, h1, h2, h3, Bool.false_eq_true, if_false, if_true]
  have HG := Lib.hid (getD_get s p hp)
  have HK := Lib.hid (show peF s.data.toList p = p + 1 + ((s.data.toList.drop (p + 1)).takeWhile wdB).length by unfold peF; rw [HG.out]; simp only [h1, h2, h3, Bool.false_eq_true, if_false, if_true])
  have HV := Lib.hid hv
  clear hv h1 h2 h3
  go_enter Tryd.func23, Tryd.ntmps23
  go_wp2_with (go_at_call 37; refine (together_any s p _ hp).mono ?_)
  rintro e w1 ⟨rfl, hw⟩
  rw [HV.out]
  have hc : w1.cell? ⟨w.heap.size, 0, none⟩ = some (.string s) := by rw [hw]; simp
  have hb : Below w.heap.size w w1 := by rw [hw]; exact (heap1 w _).alloc (by simp) _
  have HC := Lib.hid hc
  clear hw hc
  go_wp2
  go_loop [6] (fun i => ∃ k : Nat, p + 1 ≤ k ∧ k ≤ s.size ∧ i = .int .i64 (k : Int) ∧ AllIn wdB s.data.toList (p + 1) k) (fun i => s.size - (intOf i).toNat)
  case atStart => exact ⟨p + 1, Nat.le_refl _, by omega, by go_num, AllIn.nil _ _ _⟩
  case round =>
    obtain ⟨k, hk1, hk2, rfl, ha⟩ := hrel
    by_cases hlt : k < s.size
    · have hlz : (k : Int) < (s.size : Int) := by omega
      cases hq : wdB s[k]
      · have HQ := Lib.hid hq
        go_wp2_with (go_at_call 50; refine (clo50 s _ k _ hlt HC.out).mono ?_; rintro e w' ⟨rfl, rfl⟩)
        go_ret
        exact ⟨ret_int (by rw [HK.out, tw_len ha hk1 (by simpa using hk2) (fun _ => by simpa [ByteArray.getElem_eq_getElem_data] using HQ.out)]; omega), hb⟩
      · have HQ := Lib.hid hq
        go_wp2_with (go_at_call 50; refine (clo50 s _ k _ hlt HC.out).mono ?_; rintro e w' ⟨rfl, rfl⟩)
        go_round
        case rel => exact ⟨k + 1, by omega, by omega, by go_num, ha.snoc (fun _ => by simpa [ByteArray.getElem_eq_getElem_data] using HQ.out)⟩
        case measure => simp [intOf]; omega
    · have hlz : ¬ (k : Int) < (s.size : Int) := by omega
      go_wp2
      go_ret
      exact ⟨ret_int (by rw [HK.out, tw_len ha hk1 (by simpa using hk2) (fun h => absurd h (by simpa using hlt))]; omega), hb⟩
end Go.Proofs.YtahmadelokofbaaDoor
