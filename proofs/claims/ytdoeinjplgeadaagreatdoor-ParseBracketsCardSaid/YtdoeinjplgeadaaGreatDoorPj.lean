/- PROVED here: the contracts of typeOf and rowOf; the contract of typeWord. No condition but those in each theorem's own head. -/
import Derived.Test.YtdoeinjplgeadaaGreatDoorPh
namespace Go.Proofs.YtdoeinjplgeadaaGreatDoor
section
open Go Go.RowKit
open Tr (Bx heap1 bt gen_world ret_int ret_bool cell_same)

theorem bs_toList (x : List UInt8) : (bs x).toList = x := by rw [ByteArray.toList_eq, bs_list]
set_option maxRecDepth 100000 in
set_option maxHeartbeats 1500000 in
theorem typeOf_any {w : World} (x : List UInt8) : Calls Tryz.prog 118 #[.string (bs x)] w (VPost (.int .i64 (typeOf x : Int)) w) := by
  have H := Lib.hid (bs_toList x)
  generalize bs x = a at *
  go_enter Tryz.func118, Tryz.ntmps118
  go_wp2
  all_goals
    have ha := H.out
    simp only [ha, beq_iff_eq, beq_eq_false_iff_ne] at *
    go_ret
    refine ⟨ret_int ?_, Below.refl _ _⟩
    simp_all [typeOf, wInt, wBool, wArr, wFun]
set_option maxRecDepth 100000 in
set_option maxHeartbeats 1500000 in
theorem rowOf_any {w : World} (x : List UInt8) : Calls Tryz.prog 130 #[.string (bs x)] w (VPost (.int .i64 (rowOf x : Int)) w) := by
  have H := Lib.hid (bs_toList x)
  generalize bs x = a at *
  go_enter Tryz.func130, Tryz.ntmps130
  go_wp2
  all_goals
    have ha := H.out
    simp only [ha, beq_iff_eq, beq_eq_false_iff_ne] at *
    go_ret
    refine ⟨ret_int ?_, Below.refl _ _⟩
    simp_all [rowOf]
end
section
open Go Go.RowKit
open Tr (Bx heap1 bt gen_world ret_int ret_bool cell_same)

set_option maxRecDepth 100000 in
set_option maxHeartbeats 1500000 in
theorem typeWord_no {w : World} {g c : Nat} {A : Option Addr} {ts : List Tok} {V : Value} {s : St} (h : Px w g A c ts V s) (hs : typeOf (tkn ts s).s = 0) : Calls Tryz.prog 76 #[.pointer (some ⟨g, 0, none⟩)] w (NPost (tkn ts s).p 2 w) := by
  have HC := Lib.hid (token_any h)
  have HR := Lib.hid (fun w' (k : Below w.heap.size w w') => refuse_any 2 (h.below k))
  have HO := Lib.hid (fun w' => typeOf_any (w := w') (tkn ts s).s)
  rw [hs] at HO
  have hf := field36_3 (tkn ts s)
  generalize (tkn ts s).p = pp at *
  generalize tokV (tkn ts s) = v at *
  generalize bs (tkn ts s).s = a at *
  clear h hs
  go_enter Tryz.func76, Tryz.ntmps76
  go_wp2_with (first | (go_at_call 72; refine HC.out.mono ?_; rintro e w1 ⟨rfl, hb1⟩) | (go_at_call 118; refine (HO.out _).mono ?_; rintro e w2 ⟨rfl, hb2⟩) | (go_at_call 79; refine (HR.out _ (bt hb1 hb2)).mono ?_; rintro e w3 ⟨rfl, hb3⟩))
  exact ⟨rfl, rfl, bt (bt hb1 hb2) hb3⟩
set_option maxRecDepth 100000 in
set_option maxHeartbeats 1500000 in
theorem typeWord_yes {w : World} {g c : Nat} {A : Option Addr} {ts : List Tok} {V : Value} {s : St} (h : Px w g A c ts V s) (hs : typeOf (tkn ts s).s ≠ 0) (hn : s.nx + 1 < ts.length) : Calls Tryz.prog 76 #[.pointer (some ⟨g, 0, none⟩)] w (PPost g A c ts V (.int .i64 (typeOf (tkn ts s).s : Int)) (takeS s) w) := by
  have HC := Lib.hid (token_any h)
  have HT := Lib.hid (fun w' (k : Below w.heap.size w w') => take_any (h.below k) hn)
  have HO := Lib.hid (fun w' => typeOf_any (w := w') (tkn ts s).s)
  have hf := field36_3 (tkn ts s)
  generalize typeOf (tkn ts s).s = n at *
  have hs' : ¬ ((n : Int) = 0) := by omega
  generalize tokV (tkn ts s) = v at *
  generalize bs (tkn ts s).s = a at *
  clear h hs
  go_enter Tryz.func76, Tryz.ntmps76
  go_wp2_with (first | (go_at_call 72; refine HC.out.mono ?_; rintro e w1 ⟨rfl, hb1⟩) | (go_at_call 118; refine (HO.out _).mono ?_; rintro e w2 ⟨rfl, hb2⟩) | (go_at_call 69; refine (HT.out _ (bt hb1 hb2)).mono ?_; rintro e w3 ⟨rfl, hX3, hF3⟩))
  all_goals
    first
    | omega
    | (go_ret; exact ⟨rfl, hX3, (Fr.of (bt hb1 hb2)).trans hF3⟩)
end
end Go.Proofs.YtdoeinjplgeadaaGreatDoor
