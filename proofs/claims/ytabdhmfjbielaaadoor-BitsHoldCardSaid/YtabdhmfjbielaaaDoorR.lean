/- PROVED here: the contract of runText, where the library's tables are as its text lays them. No condition but those in each theorem's own head. -/
import Derived.Test.YtabdhmfjbielaaaDoorK
import Derived.Lib.ItoaLen
namespace Go.Proofs.YtabdhmfjbielaaaDoor
open Go Go.RowKit

/-- a text out of bytes -/
def tx (l : List UInt8) : ByteArray := ⟨l.toArray⟩
theorem tx_add (a b : List UInt8) : tx a ++ tx b = tx (a ++ b) := by
  unfold tx
  apply ByteArray.ext
  simp
theorem below_grow (w : World) (k : Nat) (os : Array Obj) : Below w.heap.size w (Go.Sort.grow (w.drewN k) os) :=
  ⟨rfl, rfl, rfl, by simp [Go.Sort.grow], fun i hi => by simp [Go.Sort.grow, Array.getElem?_append, hi]⟩
theorem itoa (n : Nat) (hn : n < 4096) (w : World) (hT : Tabs w) : Calls Tryd.prog 46 #[.int .i64 (n : Int)] w fun e w' => e = .returned (.string (tx (Lib.itoa n))) ∧ Below w.heap.size w w' :=
  (Tryd.strconv_Itoa n (by omega) (by omega) w hT.2).mono fun _ _ ⟨he, k, os, hw⟩ => ⟨he, by rw [hw]; exact below_grow w k os⟩

theorem tx_size (l : List UInt8) : (tx l).size = l.length := by simp [tx, ByteArray.size]
theorem itoa_size (n : Nat) (hn : n < 4096) : (tx (Lib.itoa n)).size ≤ 21 := by rw [tx_size]; exact Lib.itoa_length_le n (by omega) (by omega)
/-- one run's text -/
def rt (a b : Nat) : List UInt8 := if a = b then Lib.itoa a else Lib.itoa a ++ (if a + 2 ≤ b then [45] else [44]) ++ Lib.itoa b

set_option maxRecDepth 100000 in
set_option maxHeartbeats 2000000 in
theorem runText (a b : Nat) (hab : a ≤ b) (hb : b < 4096) (w : World) (hT : Tabs w) : Calls Tryd.prog 41 #[.int .i64 (a : Int), .int .i64 (b : Int)] w fun e w' => e = .returned (.string (tx (rt a b))) ∧ Below w.heap.size w w' := by
  have HT := Lib.hid (fun w' (hb : Below w.heap.size w w') => hT.below hb)
  clear hT
  have HI := Lib.hid (fun (n : Nat) (hn : n < 4096) (w1 : World) (hT : Tabs w1) => itoa n hn w1 hT)
  have sa := itoa_size a (by omega)
  have sb := itoa_size b hb
  by_cases he : a = b
  · subst he
    have hr : rt a a = Lib.itoa a := by simp [rt]
    rw [hr]
    clear hr
    go_enter Tryd.func41, Tryd.ntmps41
    go_wp2_with (first | (go_at_call 46; refine (HI.out _ hb _ (HT.out _ (Below.refl _ _))).mono ?_; rintro e w1 ⟨rfl, hb1⟩))
    go_ret
    exact ⟨rfl, hb1⟩
  · have hq : ((a : Int) == (b : Int)) = false := by simp; omega
    by_cases h2 : a + 2 ≤ b
    · have hr : rt a b = Lib.itoa a ++ [45] ++ Lib.itoa b := by simp [rt, he, h2]
      rw [hr]
      clear hr
      have hz : decide ((2 : Int) ≤ (b : Int) - (a : Int)) = true := by simp; omega
      go_enter Tryd.func41, Tryd.ntmps41
      go_wp2_with (first
        | (go_at_call_of 46 (Value.int IntKind.i64 (a : Int)); refine (HI.out a (by omega) _ (HT.out _ (Below.refl _ _))).mono ?_; rintro e w1 ⟨rfl, hb1⟩)
        | (go_at_call_of 46 (Value.int IntKind.i64 (b : Int)); refine (HI.out b hb _ (HT.out _ hb1)).mono ?_; rintro e w2 ⟨rfl, hb2⟩))
      go_ret
      refine ⟨?_, hb1.trans (hb2.mono hb1.size)⟩
      show Ending.returned (.string (tx (Lib.itoa a) ++ tx [45] ++ tx (Lib.itoa b))) = _
      rw [tx_add, tx_add]
    · have hr : rt a b = Lib.itoa a ++ [44] ++ Lib.itoa b := by simp [rt, he, h2]
      rw [hr]
      clear hr
      have hz : decide ((2 : Int) ≤ (b : Int) - (a : Int)) = false := by simp; omega
      go_enter Tryd.func41, Tryd.ntmps41
      go_wp2_with (first
        | (go_at_call_of 46 (Value.int IntKind.i64 (a : Int)); refine (HI.out a (by omega) _ (HT.out _ (Below.refl _ _))).mono ?_; rintro e w1 ⟨rfl, hb1⟩)
        | (go_at_call_of 46 (Value.int IntKind.i64 (b : Int)); refine (HI.out b hb _ (HT.out _ hb1)).mono ?_; rintro e w2 ⟨rfl, hb2⟩))
      go_ret
      refine ⟨?_, hb1.trans (hb2.mono hb1.size)⟩
      show Ending.returned (.string (tx (Lib.itoa a) ++ tx [44] ++ tx (Lib.itoa b))) = _
      rw [tx_add, tx_add]
end Go.Proofs.YtabdhmfjbielaaaDoor
