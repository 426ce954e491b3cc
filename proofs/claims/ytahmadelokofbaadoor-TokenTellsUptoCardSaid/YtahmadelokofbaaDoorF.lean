/- PROVED here: the contract of tokenOf. No condition but those in each theorem's own head. -/
import Derived.Test.YtahmadelokofbaaDoorE
namespace Go.Proofs.YtahmadelokofbaaDoor
open Go Go.RowKit

/-- the kind of a piece; 0: it is none -/
def tokK (l : List UInt8) : Nat := if keptB l then 4 else if idB l then 1 else if signB l then 3 else if numOk l then 2 else 0
def tokN (l : List UInt8) : Int := if tokK l = 2 then numV l else 0
def TokPost (s : ByteArray) (t : Nat) (w : World) (e : Ending) (w' : World) : Prop :=
  ((tokK s.data.toList = 0 ∧ e = .returned (.tuple #[.agg #[.int .i64 0, .int .i64 0, .int .i64 0, .string ⟨#[]⟩], .bool false])) ∨
   (tokK s.data.toList ≠ 0 ∧ e = .returned (.tuple #[.agg #[.int .i64 (tokK s.data.toList : Int), .int .i64 (tokN s.data.toList), .int .i64 (t : Int), .string s], .bool true]))) ∧ Below w.heap.size w w'
theorem tok_some {s : ByteArray} {t : Nat} {w w' : World} {k : Nat} {n : Int} (hk : tokK s.data.toList = k) (h0 : k ≠ 0) (hn : tokN s.data.toList = n) (hb : Below w.heap.size w w') :
    TokPost s t w (.returned (.tuple #[.agg #[.int .i64 (k : Int), .int .i64 n, .int .i64 (t : Int), .string s], .bool true])) w' := by
  subst hk hn; exact ⟨.inr ⟨h0, rfl⟩, hb⟩
theorem tok_none {s : ByteArray} {t : Nat} {w w' : World} (hk : tokK s.data.toList = 0) (hb : Below w.heap.size w w') :
    TokPost s t w (.returned (.tuple #[.agg #[.int .i64 0, .int .i64 0, .int .i64 0, .string ⟨#[]⟩], .bool false])) w' := ⟨.inl ⟨hk, rfl⟩, hb⟩
theorem num_true {l : List UInt8} {w : World} {e : Ending} {w' : World} (h : NumPost l w e w') (hk : numOk l = true) : e = .returned (.tuple #[.int .i64 (numV l), .bool true]) ∧ Below w.heap.size w w' := by
  obtain ⟨he, hb⟩ := h; rw [hk] at he; exact ⟨he, hb⟩
theorem num_false {l : List UInt8} {w : World} {e : Ending} {w' : World} (h : NumPost l w e w') (hk : numOk l = false) : e = .returned (.tuple #[.int .i64 (numV l), .bool false]) ∧ Below w.heap.size w w' := by
  obtain ⟨he, hb⟩ := h; rw [hk] at he; exact ⟨he, hb⟩
set_option maxHeartbeats 2000000 in
theorem tokenOf_any (s : ByteArray) (t : Nat) (w : World) (hE : Errs w) (hs : s.size ≤ 281474976710656) : Calls Tryd.prog 26 #[.string s, .int .i64 (t : Int)] w (TokPost s t w) := by
  have HE := Lib.hid hE
  clear hE
  cases hk : keptB s.data.toList
  · cases hi : idB s.data.toList
    · cases hg : signB s.data.toList
      · cases hn : numOk s.data.toList
        · have K := Lib.hid (show tokK s.data.toList = 0 by simp [tokK, hk, hi, hg, hn])
          have HN := Lib.hid hn
          clear hn
          go_enter Tryd.func26, Tryd.ntmps26
          go_wp2_with (first | (go_at_call 16; refine (kept_l _ _).mono ?_; rintro e w' ⟨rfl, rfl⟩) | (go_at_call 18; refine (ident_any _ _ hs).mono ?_; rintro e w' ⟨rfl, rfl⟩) | (go_at_call 38; refine (sign_l _ _).mono ?_; rintro e w' ⟨rfl, rfl⟩) | (go_at_call 39; refine (number_any s _ (HE.out.below (heap1 _ _)) hs).mono ?_))
          intro e w' hp
          obtain ⟨rfl, hb⟩ := num_false hp HN.out
          have hb2 := bt (heap1 w _) hb
          have hz : w.heap.size < w'.heap.size := by have := hb.size; simp at this; omega
          obtain ⟨hc, hf⟩ : (∀ o, w'.cell? ⟨w.heap.size, o, none⟩ = _) ∧ (∀ o, w'.frozen? ⟨w.heap.size, o, none⟩ = _) := ⟨fun o => hb.cell (p := ⟨w.heap.size, o, none⟩) (by simp), fun o => hb.frozen (p := ⟨w.heap.size, o, none⟩) (by simp)⟩
          go_wp2
          refine bodyPost_ret (v := .tuple #[.agg #[.int .i64 0, .int .i64 0, .int .i64 0, .string ⟨#[]⟩], .bool false]) (by simp [results, Tryd.results26, go_sem, hc]) rfl (tok_none K.out ?_)
          exact (((hb2.setCell (Nat.le_refl _) _).setCell (Nat.le_refl _) _).setCell (Nat.le_refl _) _).setCell (Nat.le_refl _) _
        · have K := Lib.hid (show tokK s.data.toList = 2 by simp [tokK, hk, hi, hg, hn])
          have K2 := Lib.hid (show tokN s.data.toList = numV s.data.toList by simp [tokN, K.out])
          have HN := Lib.hid hn
          clear hn
          go_enter Tryd.func26, Tryd.ntmps26
          go_wp2_with (first | (go_at_call 16; refine (kept_l _ _).mono ?_; rintro e w' ⟨rfl, rfl⟩) | (go_at_call 18; refine (ident_any _ _ hs).mono ?_; rintro e w' ⟨rfl, rfl⟩) | (go_at_call 38; refine (sign_l _ _).mono ?_; rintro e w' ⟨rfl, rfl⟩) | (go_at_call 39; refine (number_any s _ (HE.out.below (heap1 _ _)) hs).mono ?_))
          intro e w' hp
          obtain ⟨rfl, hb⟩ := num_true hp HN.out
          have hb2 := bt (heap1 w _) hb
          have hz : w.heap.size < w'.heap.size := by have := hb.size; simp at this; omega
          obtain ⟨hc, hf⟩ : (∀ o, w'.cell? ⟨w.heap.size, o, none⟩ = _) ∧ (∀ o, w'.frozen? ⟨w.heap.size, o, none⟩ = _) := ⟨fun o => hb.cell (p := ⟨w.heap.size, o, none⟩) (by simp), fun o => hb.frozen (p := ⟨w.heap.size, o, none⟩) (by simp)⟩
          go_wp2
          refine bodyPost_ret (v := .tuple #[.agg #[.int .i64 ((2 : Nat) : Int), .int .i64 (numV s.data.toList), .int .i64 (t : Int), .string s], .bool true]) (by simp [results, Tryd.results26, go_sem, hc]) rfl (tok_some K.out (by decide) K2.out ?_)
          exact (((hb2.setCell (Nat.le_refl _) _).setCell (Nat.le_refl _) _).setCell (Nat.le_refl _) _).setCell (Nat.le_refl _) _
      · have K := Lib.hid (show tokK s.data.toList = 3 by simp [tokK, hk, hi, hg])
        have K2 := Lib.hid (show tokN s.data.toList = 0 by simp [tokN, K.out])
        go_enter Tryd.func26, Tryd.ntmps26
        go_wp2_with (first | (go_at_call 16; refine (kept_l _ _).mono ?_; rintro e w' ⟨rfl, rfl⟩) | (go_at_call 18; refine (ident_any _ _ hs).mono ?_; rintro e w' ⟨rfl, rfl⟩) | (go_at_call 38; refine (sign_l _ _).mono ?_; rintro e w' ⟨rfl, rfl⟩) | (go_at_call 39; refine (number_any s _ (HE.out.below (heap1 _ _)) hs).mono ?_))
        refine bodyPost_ret (v := .tuple #[.agg #[.int .i64 ((3 : Nat) : Int), .int .i64 0, .int .i64 (t : Int), .string s], .bool true]) (by simp [results, Tryd.results26, go_sem]) rfl (tok_some K.out (by decide) K2.out ?_)
        exact heap1 w _
    · have K := Lib.hid (show tokK s.data.toList = 1 by simp [tokK, hk, hi])
      have K2 := Lib.hid (show tokN s.data.toList = 0 by simp [tokN, K.out])
      go_enter Tryd.func26, Tryd.ntmps26
      go_wp2_with (first | (go_at_call 16; refine (kept_l _ _).mono ?_; rintro e w' ⟨rfl, rfl⟩) | (go_at_call 18; refine (ident_any _ _ hs).mono ?_; rintro e w' ⟨rfl, rfl⟩) | (go_at_call 38; refine (sign_l _ _).mono ?_; rintro e w' ⟨rfl, rfl⟩) | (go_at_call 39; refine (number_any s _ (HE.out.below (heap1 _ _)) hs).mono ?_))
      refine bodyPost_ret (v := .tuple #[.agg #[.int .i64 ((1 : Nat) : Int), .int .i64 0, .int .i64 (t : Int), .string s], .bool true]) (by simp [results, Tryd.results26, go_sem]) rfl (tok_some K.out (by decide) K2.out ?_)
      exact heap1 w _
  · have K := Lib.hid (show tokK s.data.toList = 4 by simp [tokK, hk])
    have K2 := Lib.hid (show tokN s.data.toList = 0 by simp [tokN, K.out])
    go_enter Tryd.func26, Tryd.ntmps26
    go_wp2_with (first | (go_at_call 16; refine (kept_l _ _).mono ?_; rintro e w' ⟨rfl, rfl⟩) | (go_at_call 18; refine (ident_any _ _ hs).mono ?_; rintro e w' ⟨rfl, rfl⟩) | (go_at_call 38; refine (sign_l _ _).mono ?_; rintro e w' ⟨rfl, rfl⟩) | (go_at_call 39; refine (number_any s _ (HE.out.below (heap1 _ _)) hs).mono ?_))
    refine bodyPost_ret (v := .tuple #[.agg #[.int .i64 ((4 : Nat) : Int), .int .i64 0, .int .i64 (t : Int), .string s], .bool true]) (by simp [results, Tryd.results26, go_sem]) rfl (tok_some K.out (by decide) K2.out ?_)
    exact heap1 w _
end Go.Proofs.YtahmadelokofbaaDoor
