/- PROVED here: the contract of the document's word. No condition but those in each theorem's own head. -/
import Derived.Test.YtahmadelokofbaaDoorRd
namespace Go.Proofs.YtahmadelokofbaaDoor
open Go Go.RowKit

def rwK (l : List UInt8) : Nat := if keptB l then 4 else if idB l then 1 else if (rnum l).isSome then 2 else 0
def rwN (l : List UInt8) : Int := if rwK l = 2 then (((rnum l).getD 0 : Nat) : Int) else 0
def RwPost (s : ByteArray) (t : Nat) (w : World) (e : Ending) (w' : World) : Prop :=
  ((rwK s.data.toList = 0 ∧ e = .returned (.tuple #[.agg #[.int .i64 0, .int .i64 0, .int .i64 0, .string ⟨#[]⟩], .bool false])) ∨
   (rwK s.data.toList ≠ 0 ∧ e = .returned (.tuple #[.agg #[.int .i64 (rwK s.data.toList : Int), .int .i64 (rwN s.data.toList), .int .i64 (t : Int), .string s], .bool true]))) ∧ Below w.heap.size w w'
theorem rw_some {s : ByteArray} {t : Nat} {w w' : World} {k : Nat} {n : Int} (hk : rwK s.data.toList = k) (h0 : k ≠ 0) (hn : rwN s.data.toList = n) (hb : Below w.heap.size w w') :
    RwPost s t w (.returned (.tuple #[.agg #[.int .i64 (k : Int), .int .i64 n, .int .i64 (t : Int), .string s], .bool true])) w' := by
  subst hk hn; exact ⟨.inr ⟨h0, rfl⟩, hb⟩
theorem rw_none {s : ByteArray} {t : Nat} {w w' : World} (hk : rwK s.data.toList = 0) (hb : Below w.heap.size w w') :
    RwPost s t w (.returned (.tuple #[.agg #[.int .i64 0, .int .i64 0, .int .i64 0, .string ⟨#[]⟩], .bool false])) w' := ⟨.inl ⟨hk, rfl⟩, hb⟩
set_option maxRecDepth 100000 in
set_option maxHeartbeats 2000000 in
theorem rword_kept (s : ByteArray) (t : Nat) (w : World) (hs : s.size ≤ 281474976710656) (hk : keptB s.data.toList = true) : Calls Tryd.prog 29 #[.string s, .int .i64 (t : Int)] w (RwPost s t w) := by
  have K := Lib.hid (show rwK s.data.toList = 4 by simp [rwK, hk])
  have K2 := Lib.hid (show rwN s.data.toList = 0 by simp [rwN, K.out])
  go_enter Tryd.func29, Tryd.ntmps29
  go_wp2_with (first | (go_at_call 40; refine (rnumber_any _ _ hs).mono ?_; rintro e w' ⟨rfl, rfl⟩) | (go_at_call 17; refine (rkept_any _ _).mono ?_; rintro e w2 ⟨rfl, hb2⟩) | (go_at_call 19; refine (rident_any _ _ hs).mono ?_))
  rintro e w3 ⟨rfl, hb3⟩
  have hbW := bt hb2 hb3
  have hb0 := bt (bt (heap1 w _) (heap1 _ _)) hbW
  have hz : w.heap.size + 1 < w3.heap.size := by have := hbW.size; simp at this; omega
  obtain ⟨hc, hf⟩ : (∀ o, w3.cell? ⟨w.heap.size, o, none⟩ = _) ∧ (∀ o, w3.frozen? ⟨w.heap.size, o, none⟩ = _) := ⟨fun o => hbW.cell (p := ⟨w.heap.size, o, none⟩) (by simp; omega), fun o => hbW.frozen (p := ⟨w.heap.size, o, none⟩) (by simp; omega)⟩
  obtain ⟨hc', hf'⟩ : (∀ o, w3.cell? ⟨w.heap.size + 1, o, none⟩ = _) ∧ (∀ o, w3.frozen? ⟨w.heap.size + 1, o, none⟩ = _) := ⟨fun o => hbW.cell (p := ⟨w.heap.size + 1, o, none⟩) (by simp), fun o => hbW.frozen (p := ⟨w.heap.size + 1, o, none⟩) (by simp)⟩
  clear hbW hb2 hb3
  go_wp2
  refine bodyPost_ret (v := .tuple #[.agg #[.int .i64 ((4 : Nat) : Int), .int .i64 0, .int .i64 (t : Int), .string s], .bool true]) (by simp [results, Tryd.results29, go_sem, hc]) rfl (rw_some K.out (by decide) K2.out ?_)
  exact (((((hb0.setCell (Nat.le_succ _) _).setCell (Nat.le_refl _) _).setCell (Nat.le_refl _) _).setCell (Nat.le_refl _) _).setCell (Nat.le_refl _) _)
set_option maxRecDepth 100000 in
set_option maxHeartbeats 2000000 in
theorem rword_id (s : ByteArray) (t : Nat) (w : World) (hs : s.size ≤ 281474976710656) (hk : keptB s.data.toList = false) (hi : idB s.data.toList = true) : Calls Tryd.prog 29 #[.string s, .int .i64 (t : Int)] w (RwPost s t w) := by
  have K := Lib.hid (show rwK s.data.toList = 1 by simp [rwK, hk, hi])
  have K2 := Lib.hid (show rwN s.data.toList = 0 by simp [rwN, K.out])
  go_enter Tryd.func29, Tryd.ntmps29
  go_wp2_with (first | (go_at_call 40; refine (rnumber_any _ _ hs).mono ?_; rintro e w' ⟨rfl, rfl⟩) | (go_at_call 17; refine (rkept_any _ _).mono ?_; rintro e w2 ⟨rfl, hb2⟩) | (go_at_call 19; refine (rident_any _ _ hs).mono ?_))
  rintro e w3 ⟨rfl, hb3⟩
  have hbW := bt hb2 hb3
  have hb0 := bt (bt (heap1 w _) (heap1 _ _)) hbW
  have hz : w.heap.size + 1 < w3.heap.size := by have := hbW.size; simp at this; omega
  obtain ⟨hc, hf⟩ : (∀ o, w3.cell? ⟨w.heap.size, o, none⟩ = _) ∧ (∀ o, w3.frozen? ⟨w.heap.size, o, none⟩ = _) := ⟨fun o => hbW.cell (p := ⟨w.heap.size, o, none⟩) (by simp; omega), fun o => hbW.frozen (p := ⟨w.heap.size, o, none⟩) (by simp; omega)⟩
  obtain ⟨hc', hf'⟩ : (∀ o, w3.cell? ⟨w.heap.size + 1, o, none⟩ = _) ∧ (∀ o, w3.frozen? ⟨w.heap.size + 1, o, none⟩ = _) := ⟨fun o => hbW.cell (p := ⟨w.heap.size + 1, o, none⟩) (by simp), fun o => hbW.frozen (p := ⟨w.heap.size + 1, o, none⟩) (by simp)⟩
  clear hbW hb2 hb3
  go_wp2
  refine bodyPost_ret (v := .tuple #[.agg #[.int .i64 ((1 : Nat) : Int), .int .i64 0, .int .i64 (t : Int), .string s], .bool true]) (by simp [results, Tryd.results29, go_sem, hc]) rfl (rw_some K.out (by decide) K2.out ?_)
  exact (((((hb0.setCell (Nat.le_succ _) _).setCell (Nat.le_refl _) _).setCell (Nat.le_refl _) _).setCell (Nat.le_refl _) _).setCell (Nat.le_refl _) _)
set_option maxRecDepth 100000 in
set_option maxHeartbeats 2000000 in
theorem rword_num (s : ByteArray) (t : Nat) (w : World) (hs : s.size ≤ 281474976710656) (hk : keptB s.data.toList = false) (hi : idB s.data.toList = false) (hr : (rnum s.data.toList).isSome = true) : Calls Tryd.prog 29 #[.string s, .int .i64 (t : Int)] w (RwPost s t w) := by
  have K := Lib.hid (show rwK s.data.toList = 2 by simp [rwK, hk, hi, hr])
  have K2 := Lib.hid (show rwN s.data.toList = (((rnum s.data.toList).getD 0 : Nat) : Int) by simp [rwN, K.out])
  go_enter Tryd.func29, Tryd.ntmps29
  go_wp2_with (first | (go_at_call 40; refine (rnumber_any _ _ hs).mono ?_; rintro e w' ⟨rfl, rfl⟩) | (go_at_call 17; refine (rkept_any _ _).mono ?_; rintro e w2 ⟨rfl, hb2⟩) | (go_at_call 19; refine (rident_any _ _ hs).mono ?_))
  rintro e w3 ⟨rfl, hb3⟩
  have hbW := bt hb2 hb3
  have hb0 := bt (bt (heap1 w _) (heap1 _ _)) hbW
  have hz : w.heap.size + 1 < w3.heap.size := by have := hbW.size; simp at this; omega
  obtain ⟨hc, hf⟩ : (∀ o, w3.cell? ⟨w.heap.size, o, none⟩ = _) ∧ (∀ o, w3.frozen? ⟨w.heap.size, o, none⟩ = _) := ⟨fun o => hbW.cell (p := ⟨w.heap.size, o, none⟩) (by simp; omega), fun o => hbW.frozen (p := ⟨w.heap.size, o, none⟩) (by simp; omega)⟩
  obtain ⟨hc', hf'⟩ : (∀ o, w3.cell? ⟨w.heap.size + 1, o, none⟩ = _) ∧ (∀ o, w3.frozen? ⟨w.heap.size + 1, o, none⟩ = _) := ⟨fun o => hbW.cell (p := ⟨w.heap.size + 1, o, none⟩) (by simp), fun o => hbW.frozen (p := ⟨w.heap.size + 1, o, none⟩) (by simp)⟩
  clear hbW hb2 hb3
  go_wp2
  refine bodyPost_ret (v := .tuple #[.agg #[.int .i64 ((2 : Nat) : Int), .int .i64 (((rnum s.data.toList).getD 0 : Nat) : Int), .int .i64 (t : Int), .string s], .bool true]) (by simp [results, Tryd.results29, go_sem, hc]) rfl (rw_some K.out (by decide) K2.out ?_)
  exact ((((((hb0.setCell (Nat.le_succ _) _).setCell (Nat.le_succ _) _).setCell (Nat.le_refl _) _).setCell (Nat.le_refl _) _).setCell (Nat.le_refl _) _).setCell (Nat.le_refl _) _)
set_option maxRecDepth 100000 in
set_option maxHeartbeats 2000000 in
theorem rword_no (s : ByteArray) (t : Nat) (w : World) (hs : s.size ≤ 281474976710656) (hk : keptB s.data.toList = false) (hi : idB s.data.toList = false) (hr : (rnum s.data.toList).isSome = false) : Calls Tryd.prog 29 #[.string s, .int .i64 (t : Int)] w (RwPost s t w) := by
  have K := Lib.hid (show rwK s.data.toList = 0 by simp [rwK, hk, hi, hr])
  go_enter Tryd.func29, Tryd.ntmps29
  go_wp2_with (first | (go_at_call 40; refine (rnumber_any _ _ hs).mono ?_; rintro e w' ⟨rfl, rfl⟩) | (go_at_call 17; refine (rkept_any _ _).mono ?_; rintro e w2 ⟨rfl, hb2⟩) | (go_at_call 19; refine (rident_any _ _ hs).mono ?_))
  rintro e w3 ⟨rfl, hb3⟩
  have hbW := bt hb2 hb3
  have hb0 := bt (bt (heap1 w _) (heap1 _ _)) hbW
  have hz : w.heap.size + 1 < w3.heap.size := by have := hbW.size; simp at this; omega
  obtain ⟨hc, hf⟩ : (∀ o, w3.cell? ⟨w.heap.size, o, none⟩ = _) ∧ (∀ o, w3.frozen? ⟨w.heap.size, o, none⟩ = _) := ⟨fun o => hbW.cell (p := ⟨w.heap.size, o, none⟩) (by simp; omega), fun o => hbW.frozen (p := ⟨w.heap.size, o, none⟩) (by simp; omega)⟩
  obtain ⟨hc', hf'⟩ : (∀ o, w3.cell? ⟨w.heap.size + 1, o, none⟩ = _) ∧ (∀ o, w3.frozen? ⟨w.heap.size + 1, o, none⟩ = _) := ⟨fun o => hbW.cell (p := ⟨w.heap.size + 1, o, none⟩) (by simp), fun o => hbW.frozen (p := ⟨w.heap.size + 1, o, none⟩) (by simp)⟩
  clear hbW hb2 hb3
  go_wp2
  refine bodyPost_ret (v := .tuple #[.agg #[.int .i64 0, .int .i64 0, .int .i64 0, .string ⟨#[]⟩], .bool false]) (by simp [results, Tryd.results29, go_sem, hc]) rfl (rw_none K.out ?_)
  exact ((((hb0.setCell (Nat.le_refl _) _).setCell (Nat.le_refl _) _).setCell (Nat.le_refl _) _).setCell (Nat.le_refl _) _)
theorem rword_any (s : ByteArray) (t : Nat) (w : World) (hs : s.size ≤ 281474976710656) : Calls Tryd.prog 29 #[.string s, .int .i64 (t : Int)] w (RwPost s t w) := by
  cases hk : keptB s.data.toList
  · cases hi : idB s.data.toList
    · cases hr : (rnum s.data.toList).isSome
      · exact rword_no s t w hs hk hi hr
      · exact rword_num s t w hs hk hi hr
    · exact rword_id s t w hs hk hi
  · exact rword_kept s t w hs hk
theorem word_sign {l : List UInt8} (h : allW l = true) : signB l = false := by
  cases hs : signB l
  · rfl
  · have : (sgL.all fun x => !(allW x)) = true := by decide
    have h2 := List.all_eq_true.1 this l (mem_sg hs)
    rw [h] at h2; cases h2
theorem rw_tok {l : List UInt8} (h0 : l ≠ []) (h : allW l = true) : rwK l = tokK l ∧ rwN l = tokN l := by
  cases l with
  | nil => exact absurd rfl h0
  | cons c r =>
    have hw : wdB c = true := by unfold allW at h; simp at h; exact h.1
    have hn : 48 ≤ c.toNat := by unfold wdB dgB at hw; simp at hw; omega
    have e := num_rnum (c := c) (r := r) (by omega) (by omega)
    have e1 : numOk (c :: r) = (rnum (c :: r)).isSome := by unfold numOk; rw [e]; cases rnum (c :: r) <;> rfl
    have e2 : numV (c :: r) = (((rnum (c :: r)).getD 0 : Nat) : Int) := by unfold numV; rw [e]; cases rnum (c :: r) <;> rfl
    have ek : rwK (c :: r) = tokK (c :: r) := by unfold rwK tokK; rw [word_sign h, e1]; rfl
    exact ⟨ek, by unfold rwN tokN; rw [ek, e2]⟩
theorem rw_nil : rwK [] = 0 := by decide
end Go.Proofs.YtahmadelokofbaaDoor
