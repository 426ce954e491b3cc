/- PROVED here: the contract of number; the contract of tokenOf. No condition but those in each theorem's own head. -/
import Derived.Test.YtdoeinjplgeadaaGreatDoorTkD
import Derived.Test.YtdoeinjplgeadaaGreatDoorTkSh
namespace Go.Proofs.YtdoeinjplgeadaaGreatDoor.Tk
section
open Go Go.RowKit

/-- the two errors of strconv lie in memory -/
def Errs (w : World) : Prop := ∃ e1 e2, w.cell? ⟨1, 0, none⟩ = some e1 ∧ (e1 = .nilIface ∨ ∃ te pe, e1 = .iface te pe) ∧ w.cell? ⟨2, 0, none⟩ = some e2 ∧ (e2 = .nilIface ∨ ∃ te pe, e2 = .iface te pe)
theorem Errs.below {w w' : World} (h : Errs w) (hb : Below w.heap.size w w') : Errs w' := by
  obtain ⟨e1, e2, h1, k1, h2, k2⟩ := h
  exact ⟨e1, e2, (hb.cell (p := ⟨1, 0, none⟩) (Lib.lt_of_cell h1)).trans h1, k1, (hb.cell (p := ⟨2, 0, none⟩) (Lib.lt_of_cell h2)).trans h2, k2⟩
/-- the number that a piece is -/
def numF (l : List UInt8) : Option Int := if 1 < l.length ∧ (l.headD 0).toNat = 48 then none else match Lib.parseIntB 64 l with | .ok v => some v | _ => none
def numV (l : List UInt8) : Int := (numF l).getD 0
def numOk (l : List UInt8) : Bool := (numF l).isSome
def NumPost (l : List UInt8) (w : World) (e : Ending) (w' : World) : Prop := e = .returned (.tuple #[.int .i64 (numV l), .bool (numOk l)]) ∧ Below w.heap.size w w'
theorem num_none {l : List UInt8} {w w' : World} (h : numF l = none) (hb : Below w.heap.size w w') : NumPost l w (.returned (.tuple #[.int .i64 0, .bool false])) w' := by
  refine ⟨?_, hb⟩
  unfold numV numOk; rw [h]; rfl
theorem num_some {l : List UInt8} {w w' : World} {v : Int} (h : numF l = some v) (hb : Below w.heap.size w w') : NumPost l w (.returned (.tuple #[.int .i64 v, .bool true])) w' := by
  refine ⟨?_, hb⟩
  unfold numV numOk; rw [h]; rfl
def ParsePost (l : List UInt8) (w : World) (e : Ending) (w' : World) : Prop :=
    ((∃ v, Lib.parseIntB 64 l = .ok v ∧ e = .returned (.tuple #[.int .i64 v, .nilIface])) ∨ (∃ v N, (∀ u, Lib.parseIntB 64 l ≠ .ok u) ∧ e = .returned (.tuple #[.int .i64 v, .iface 135 (.pointer (some ⟨N, 0, none⟩))]))) ∧ Below w.heap.size w w'
set_option maxHeartbeats 1000000 in
theorem parse_any (s : ByteArray) (w : World) (hE : Errs w) (hs : s.size ≤ 281474976710656) : Calls Tryz.prog 112 #[.string s, .int .i64 10, .int .i64 64] w (ParsePost s.data.toList w) := by
  obtain ⟨e1, e2, h1, k1, h2, k2⟩ := hE
  rcases h : Lib.parseIntB 64 s.data.toList with v | _ | _
  · refine (Tryz.strconv_ParseInt_10_at64_ok s (by omega) v h w).mono ?_
    rintro e w' ⟨he, hw⟩
    refine ⟨.inl ⟨v, h, he⟩, ?_⟩
    rcases hw with rfl | ⟨t, rfl⟩
    · exact Below.refl _ _
    · exact Lib.bytesWorld_below _ _ _
  · refine (Any.strconv_ParseInt_10_at64_syntax Tryz.laysC174 s hs h e1 w h1 k1).mono ?_
    rintro e w' ⟨N, he, _, _, hb⟩
    exact ⟨.inr ⟨0, N, (fun u hh => by rw [h] at hh; cases hh), he⟩, hb⟩
  · refine (Tryz.strconv_ParseInt_10_at64_range s hs h e2 w h2 k2).mono ?_
    rintro e w' ⟨N, he, _, _, hb⟩
    exact ⟨.inr ⟨_, N, (fun u hh => by rw [h] at hh; cases hh), he⟩, hb⟩
set_option maxHeartbeats 1000000 in
theorem number_any (s : ByteArray) (w : World) (hE : Errs w) (hs : s.size ≤ 281474976710656) : Calls Tryz.prog 61 #[.string s] w (NumPost s.data.toList w) := by
  have hlen : s.data.toList.length = s.size := by simp
  have HL := Lib.hid hlen
  clear hlen
  have HE := Lib.hid hE
  clear hE
  by_cases h1 : 1 < s.size
  · have hp : 0 < s.size := by omega
    have HH := Lib.hid (head_get s hp)
    have q : (1 : Int) < (s.size : Int) := by omega
    by_cases h2 : s[0].toNat = 48
    · have hN := Lib.hid (show numF s.data.toList = none by unfold numF; rw [if_pos ⟨by rw [HL.out]; exact h1, by rw [HH.out]; exact h2⟩])
      have q2 : ((s[0].toNat : Int) == 48) = true := beq_iff_eq.2 (by omega)
      clear h2
      go_enter Tryz.func61, Tryz.ntmps61
      go_wp2
      go_ret2
      exact num_none hN.out (Below.refl _ _)
    · have hN := Lib.hid (show numF s.data.toList = (match Lib.parseIntB 64 s.data.toList with | .ok v => some v | _ => none) by unfold numF; rw [if_neg (by rw [HH.out]; exact fun h => h2 h.2)])
      have q2 : ((s[0].toNat : Int) == 48) = false := beq_eq_false_iff_ne.2 (by omega)
      clear h2
      go_enter Tryz.func61, Tryz.ntmps61
      go_wp2_with (go_at_call 112; refine (parse_any s _ HE.out hs).mono ?_)
      rintro e w' ⟨he, hb⟩
      rcases he with ⟨v, hv, rfl⟩ | ⟨v, N, hv, rfl⟩
      · have HV := Lib.hid hv
        clear hv
        go_wp2
        go_ret2
        exact num_some (by rw [hN.out, HV.out]) hb
      · have HV := Lib.hid hv
        clear hv
        go_wp2
        go_ret2
        refine num_none ?_ hb
        rw [hN.out]
        cases hq : Lib.parseIntB 64 s.data.toList with
        | ok u => exact absurd hq (HV.out u)
        | _ => rfl
  · have q : ¬ (1 : Int) < (s.size : Int) := by omega
    have hN := Lib.hid (show numF s.data.toList = (match Lib.parseIntB 64 s.data.toList with | .ok v => some v | _ => none) by unfold numF; rw [if_neg (by rw [HL.out]; exact fun h => h1 h.1)])
    go_enter Tryz.func61, Tryz.ntmps61
    go_wp2_with (go_at_call 112; refine (parse_any s _ HE.out hs).mono ?_)
    rintro e w' ⟨he, hb⟩
    rcases he with ⟨v, hv, rfl⟩ | ⟨v, N, hv, rfl⟩
    · have HV := Lib.hid hv
      clear hv
      go_wp2
      go_ret2
      exact num_some (by rw [hN.out, HV.out]) hb
    · have HV := Lib.hid hv
      clear hv
      go_wp2
      go_ret2
      refine num_none ?_ hb
      rw [hN.out]
      cases hq : Lib.parseIntB 64 s.data.toList with
      | ok u => exact absurd hq (HV.out u)
      | _ => rfl
end
section
open Go Go.RowKit

/-- the kind of a piece; 0: it is none -/
def tokK (l : List UInt8) : Nat := if keptB l then 4 else if idB l then 1 else if signB l then 3 else if numOk l then 2 else 0
def tokN (l : List UInt8) : Int := if tokK l = 2 then numV l else 0
def TokPost (s : ByteArray) (t : Nat) (w : World) (e : Ending) (w' : World) : Prop :=
  ((tokK s.data.toList = 0 ∧ e = .returned (.tuple #[.agg #[.int .i64 0, .int .i64 0, .int .i64 0, .string ⟨#[]⟩], .bool false])) ∨
   (tokK s.data.toList ≠ 0 ∧ e = .returned (.tuple #[.agg #[.int .i64 (tokK s.data.toList : Int), .int .i64 (tokN s.data.toList), .int .i64 (t : Int), .string s], .bool true]))) ∧ Below w.heap.size w w'
theorem tok_some {s : ByteArray} {t : Nat} {w w' : World} {k : Nat} {n : Int} (hk : tokK s.data.toList = k) (h0 : k ≠ 0) (hn : tokN s.data.toList = n) (hb : Below w.heap.size w w') :
    TokPost s t w (.returned (.tuple #[.agg #[.int .i64 (k : Int), .int .i64 n, .int .i64 (t : Int), .string s], .bool true])) w' := by
  subst hk hn; exact ⟨.inr ⟨h0, rfl⟩, hb⟩
theorem tok_none {s : ByteArray} {t : Nat} {w w' : World} (hk : tokK s.data.toList = 0) (hb : Below w.heap.size w w') :
    TokPost s t w (.returned (.tuple #[.agg #[.int .i64 0, .int .i64 0, .int .i64 0, .string ⟨#[]⟩], .bool false])) w' := ⟨.inl ⟨hk, rfl⟩, hb⟩
theorem num_true {l : List UInt8} {w : World} {e : Ending} {w' : World} (h : NumPost l w e w') (hk : numOk l = true) : e = .returned (.tuple #[.int .i64 (numV l), .bool true]) ∧ Below w.heap.size w w' := by
  obtain ⟨he, hb⟩ := h; rw [hk] at he; exact ⟨he, hb⟩
theorem num_false {l : List UInt8} {w : World} {e : Ending} {w' : World} (h : NumPost l w e w') (hk : numOk l = false) : e = .returned (.tuple #[.int .i64 (numV l), .bool false]) ∧ Below w.heap.size w w' := by
  obtain ⟨he, hb⟩ := h; rw [hk] at he; exact ⟨he, hb⟩
set_option maxHeartbeats 2000000 in
theorem tokenOf_any (s : ByteArray) (t : Nat) (w : World) (hE : Errs w) (hs : s.size ≤ 281474976710656) : Calls Tryz.prog 31 #[.string s, .int .i64 (t : Int)] w (TokPost s t w) := by
  have HE := Lib.hid hE
  clear hE
  cases hk : keptB s.data.toList
  · cases hi : idB s.data.toList
    · cases hg : signB s.data.toList
      · cases hn : numOk s.data.toList
        · have K := Lib.hid (show tokK s.data.toList = 0 by simp [tokK, hk, hi, hg, hn])
          have HN := Lib.hid hn
          clear hn
          go_enter Tryz.func31, Tryz.ntmps31
          go_wp2_with (first | (go_at_call 58; refine (kept_l _ _).mono ?_; rintro e w' ⟨rfl, rfl⟩) | (go_at_call 59; refine (ident_any _ _ hs).mono ?_; rintro e w' ⟨rfl, rfl⟩) | (go_at_call 60; refine (sign_l _ _).mono ?_; rintro e w' ⟨rfl, rfl⟩) | (go_at_call 61; refine (number_any s _ (HE.out.below (heap1 _ _)) hs).mono ?_))
          intro e w' hp
          obtain ⟨rfl, hb⟩ := num_false hp HN.out
          have hb2 := bt (heap1 w _) hb
          have hz : w.heap.size < w'.heap.size := by have := hb.size; simp at this; omega
          obtain ⟨hc, hf⟩ : (∀ o, w'.cell? ⟨w.heap.size, o, none⟩ = _) ∧ (∀ o, w'.frozen? ⟨w.heap.size, o, none⟩ = _) := ⟨fun o => hb.cell (p := ⟨w.heap.size, o, none⟩) (by simp), fun o => hb.frozen (p := ⟨w.heap.size, o, none⟩) (by simp)⟩
          go_wp2
          refine bodyPost_ret (v := .tuple #[.agg #[.int .i64 0, .int .i64 0, .int .i64 0, .string ⟨#[]⟩], .bool false]) (by simp [results, Tryz.results31, go_sem, hc]) rfl (tok_none K.out ?_)
          exact (((hb2.setCell (Nat.le_refl _) _).setCell (Nat.le_refl _) _).setCell (Nat.le_refl _) _).setCell (Nat.le_refl _) _
        · have K := Lib.hid (show tokK s.data.toList = 2 by simp [tokK, hk, hi, hg, hn])
          have K2 := Lib.hid (show tokN s.data.toList = numV s.data.toList by simp [tokN, K.out])
          have HN := Lib.hid hn
          clear hn
          go_enter Tryz.func31, Tryz.ntmps31
          go_wp2_with (first | (go_at_call 58; refine (kept_l _ _).mono ?_; rintro e w' ⟨rfl, rfl⟩) | (go_at_call 59; refine (ident_any _ _ hs).mono ?_; rintro e w' ⟨rfl, rfl⟩) | (go_at_call 60; refine (sign_l _ _).mono ?_; rintro e w' ⟨rfl, rfl⟩) | (go_at_call 61; refine (number_any s _ (HE.out.below (heap1 _ _)) hs).mono ?_))
          intro e w' hp
          obtain ⟨rfl, hb⟩ := num_true hp HN.out
          have hb2 := bt (heap1 w _) hb
          have hz : w.heap.size < w'.heap.size := by have := hb.size; simp at this; omega
          obtain ⟨hc, hf⟩ : (∀ o, w'.cell? ⟨w.heap.size, o, none⟩ = _) ∧ (∀ o, w'.frozen? ⟨w.heap.size, o, none⟩ = _) := ⟨fun o => hb.cell (p := ⟨w.heap.size, o, none⟩) (by simp), fun o => hb.frozen (p := ⟨w.heap.size, o, none⟩) (by simp)⟩
          go_wp2
          refine bodyPost_ret (v := .tuple #[.agg #[.int .i64 ((2 : Nat) : Int), .int .i64 (numV s.data.toList), .int .i64 (t : Int), .string s], .bool true]) (by simp [results, Tryz.results31, go_sem, hc]) rfl (tok_some K.out (by decide) K2.out ?_)
          exact (((hb2.setCell (Nat.le_refl _) _).setCell (Nat.le_refl _) _).setCell (Nat.le_refl _) _).setCell (Nat.le_refl _) _
      · have K := Lib.hid (show tokK s.data.toList = 3 by simp [tokK, hk, hi, hg])
        have K2 := Lib.hid (show tokN s.data.toList = 0 by simp [tokN, K.out])
        go_enter Tryz.func31, Tryz.ntmps31
        go_wp2_with (first | (go_at_call 58; refine (kept_l _ _).mono ?_; rintro e w' ⟨rfl, rfl⟩) | (go_at_call 59; refine (ident_any _ _ hs).mono ?_; rintro e w' ⟨rfl, rfl⟩) | (go_at_call 60; refine (sign_l _ _).mono ?_; rintro e w' ⟨rfl, rfl⟩) | (go_at_call 61; refine (number_any s _ (HE.out.below (heap1 _ _)) hs).mono ?_))
        refine bodyPost_ret (v := .tuple #[.agg #[.int .i64 ((3 : Nat) : Int), .int .i64 0, .int .i64 (t : Int), .string s], .bool true]) (by simp [results, Tryz.results31, go_sem]) rfl (tok_some K.out (by decide) K2.out ?_)
        exact heap1 w _
    · have K := Lib.hid (show tokK s.data.toList = 1 by simp [tokK, hk, hi])
      have K2 := Lib.hid (show tokN s.data.toList = 0 by simp [tokN, K.out])
      go_enter Tryz.func31, Tryz.ntmps31
      go_wp2_with (first | (go_at_call 58; refine (kept_l _ _).mono ?_; rintro e w' ⟨rfl, rfl⟩) | (go_at_call 59; refine (ident_any _ _ hs).mono ?_; rintro e w' ⟨rfl, rfl⟩) | (go_at_call 60; refine (sign_l _ _).mono ?_; rintro e w' ⟨rfl, rfl⟩) | (go_at_call 61; refine (number_any s _ (HE.out.below (heap1 _ _)) hs).mono ?_))
      refine bodyPost_ret (v := .tuple #[.agg #[.int .i64 ((1 : Nat) : Int), .int .i64 0, .int .i64 (t : Int), .string s], .bool true]) (by simp [results, Tryz.results31, go_sem]) rfl (tok_some K.out (by decide) K2.out ?_)
      exact heap1 w _
  · have K := Lib.hid (show tokK s.data.toList = 4 by simp [tokK, hk])
    have K2 := Lib.hid (show tokN s.data.toList = 0 by simp [tokN, K.out])
    go_enter Tryz.func31, Tryz.ntmps31
    go_wp2_with (first | (go_at_call 58; refine (kept_l _ _).mono ?_; rintro e w' ⟨rfl, rfl⟩) | (go_at_call 59; refine (ident_any _ _ hs).mono ?_; rintro e w' ⟨rfl, rfl⟩) | (go_at_call 60; refine (sign_l _ _).mono ?_; rintro e w' ⟨rfl, rfl⟩) | (go_at_call 61; refine (number_any s _ (HE.out.below (heap1 _ _)) hs).mono ?_))
    refine bodyPost_ret (v := .tuple #[.agg #[.int .i64 ((4 : Nat) : Int), .int .i64 0, .int .i64 (t : Int), .string s], .bool true]) (by simp [results, Tryz.results31, go_sem]) rfl (tok_some K.out (by decide) K2.out ?_)
    exact heap1 w _
end
end Go.Proofs.YtdoeinjplgeadaaGreatDoor.Tk
