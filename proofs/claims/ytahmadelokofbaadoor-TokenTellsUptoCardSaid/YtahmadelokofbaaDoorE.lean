/- PROVED here: the contract of number. No condition but those in each theorem's own head. -/
import Derived.Test.YtahmadelokofbaaDoorD
import Derived.Test.YtahmadelokofbaaDoorSh
namespace Go.Proofs.YtahmadelokofbaaDoor
open Go Go.RowKit

/-- the two errors of strconv lie in memory -/
def Errs (w : World) : Prop := ∃ e1 e2, w.cell? ⟨1, 0, none⟩ = some e1 ∧ (e1 = .nilIface ∨ ∃ te pe, e1 = .iface te pe) ∧ w.cell? ⟨2, 0, none⟩ = some e2 ∧ (e2 = .nilIface ∨ ∃ te pe, e2 = .iface te pe)
theorem Errs.below {w w' : World} (h : Errs w) (hb : Below w.heap.size w w') : Errs w' := by
  obtain ⟨e1, e2, h1, k1, h2, k2⟩ := h
  exact ⟨e1, e2, (hb.cell (p := ⟨1, 0, none⟩) (Lib.lt_of_cell h1)).trans h1, k1, (hb.cell (p := ⟨2, 0, none⟩) (Lib.lt_of_cell h2)).trans h2, k2⟩
/-- the number that a piece is -/
def numF (l : List UInt8) : Option Int := if 1 < l.length ∧ (l.headD 0).toNat = 48 then none else match Lib.parseIntB 64 l with | .ok v => some v | _ => none
def numV (l : List UInt8) : Int := (numF l).getD 0
def numOk (l : List UInt8) : Bool := (numF l).isSome
def NumPost (l : List UInt8) (w : World) (e : Ending) (w' : World) : Prop := e = .returned (.tuple #[.int .i64 (numV l), .bool (numOk l)]) ∧ Below w.heap.size w w'
theorem num_none {l : List UInt8} {w w' : World} (h : numF l = none) (hb : Below w.heap.size w w') : NumPost l w (.returned (.tuple #[.int .i64 0, .bool false])) w' := by
  refine ⟨?_, hb⟩
  unfold numV numOk; rw [h]; rfl
theorem num_some {l : List UInt8} {w w' : World} {v : Int} (h : numF l = some v) (hb : Below w.heap.size w w') : NumPost l w (.returned (.tuple #[.int .i64 v, .bool true])) w' := by
  refine ⟨?_, hb⟩
  unfold numV numOk; rw [h]; rfl
def ParsePost (l : List UInt8) (w : World) (e : Ending) (w' : World) : Prop :=
    ((∃ v, Lib.parseIntB 64 l = .ok v ∧ e = .returned (.tuple #[.int .i64 v, .nilIface])) ∨ (∃ v N, (∀ u, Lib.parseIntB 64 l ≠ .ok u) ∧ e = .returned (.tuple #[.int .i64 v, .iface 74 (.pointer (some ⟨N, 0, none⟩))]))) ∧ Below w.heap.size w w'
set_option maxHeartbeats 1000000 in
theorem parse_any (s : ByteArray) (w : World) (hE : Errs w) (hs : s.size ≤ 281474976710656) : Calls Tryd.prog 52 #[.string s, .int .i64 10, .int .i64 64] w (ParsePost s.data.toList w) := by
  obtain ⟨e1, e2, h1, k1, h2, k2⟩ := hE
  rcases h : Lib.parseIntB 64 s.data.toList with v | _ | _
  · refine (Tryd.strconv_ParseInt_10_at64_ok s (by omega) v h w).mono ?_
    rintro e w' ⟨he, hw⟩
    refine ⟨.inl ⟨v, h, he⟩, ?_⟩
    rcases hw with rfl | ⟨t, rfl⟩
    · exact Below.refl _ _
    · exact Lib.bytesWorld_below _ _ _
  · refine (Any.strconv_ParseInt_10_at64_syntax Tryd.laysC174 s hs h e1 w h1 k1).mono ?_
    rintro e w' ⟨N, he, _, _, hb⟩
    exact ⟨.inr ⟨0, N, (fun u hh => by rw [h] at hh; cases hh), he⟩, hb⟩
  · refine (Tryd.strconv_ParseInt_10_at64_range s hs h e2 w h2 k2).mono ?_
    rintro e w' ⟨N, he, _, _, hb⟩
    exact ⟨.inr ⟨_, N, (fun u hh => by rw [h] at hh; cases hh), he⟩, hb⟩
set_option maxHeartbeats 1000000 in
theorem number_any (s : ByteArray) (w : World) (hE : Errs w) (hs : s.size ≤ 281474976710656) : Calls Tryd.prog 39 #[.string s] w (NumPost s.data.toList w) := by
  have hlen : s.data.toList.length = s.size := by simp
  have HL := Lib.hid hlen
  clear hlen
  have HE := Lib.hid hE
  clear hE
  by_cases h1 : 1 < s.size
  · have hp : 0 < s.size := by omega
    have HH := Lib.hid (head_get s hp)
    have q : (1 : Int) < (s.size : Int) := by omega
    by_cases h2 : s[0].toNat = 48
    · have hN := Lib.hid (show numF s.data.toList = none by unfold numF; rw [if_pos ⟨by rw [HL.out]; exact h1, by rw [HH.out]; exact h2⟩])
      have q2 : ((s[0].toNat : Int) == 48) = true := beq_iff_eq.2 (by omega)
      clear h2
      go_enter Tryd.func39, Tryd.ntmps39
      go_wp2
      go_ret2
      exact num_none hN.out (Below.refl _ _)
    · have hN := Lib.hid (show numF s.data.toList = (match Lib.parseIntB 64 s.data.toList with | .ok v => some v | _ => none) by unfold numF; rw [if_neg (by rw [HH.out]; exact fun h => h2 h.2)])
      have q2 : ((s[0].toNat : Int) == 48) = false := beq_eq_false_iff_ne.2 (by omega)
      clear h2
      go_enter Tryd.func39, Tryd.ntmps39
      go_wp2_with (go_at_call 52; refine (parse_any s _ HE.out hs).mono ?_)
      rintro e w' ⟨he, hb⟩
      rcases he with ⟨v, hv, rfl⟩ | ⟨v, N, hv, rfl⟩
      · have HV := Lib.hid hv
        clear hv
        go_wp2
        go_ret2
        exact num_some (by rw [hN.out, HV.out]) hb
      · have HV := Lib.hid hv
        clear hv
        go_wp2
        go_ret2
        refine num_none ?_ hb
        rw [hN.out]
        cases hq : Lib.parseIntB 64 s.data.toList with
        | ok u => exact absurd hq (HV.out u)
        | _ => rfl
  · have q : ¬ (1 : Int) < (s.size : Int) := by omega
    have hN := Lib.hid (show numF s.data.toList = (match Lib.parseIntB 64 s.data.toList with | .ok v => some v | _ => none) by unfold numF; rw [if_neg (by rw [HL.out]; exact fun h => h1 h.1)])
    go_enter Tryd.func39, Tryd.ntmps39
    go_wp2_with (go_at_call 52; refine (parse_any s _ HE.out hs).mono ?_)
    rintro e w' ⟨he, hb⟩
    rcases he with ⟨v, hv, rfl⟩ | ⟨v, N, hv, rfl⟩
    · have HV := Lib.hid hv
      clear hv
      go_wp2
      go_ret2
      exact num_some (by rw [hN.out, HV.out]) hb
    · have HV := Lib.hid hv
      clear hv
      go_wp2
      go_ret2
      refine num_none ?_ hb
      rw [hN.out]
      cases hq : Lib.parseIntB 64 s.data.toList with
      | ok u => exact absurd hq (HV.out u)
      | _ => rfl
end Go.Proofs.YtahmadelokofbaaDoor
