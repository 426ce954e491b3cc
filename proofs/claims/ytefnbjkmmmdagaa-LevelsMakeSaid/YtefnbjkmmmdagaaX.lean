/- PROVED here: the examples of LevelsRows, reckoned. No condition but those in each theorem's own head. -/
import Derived.Test.YtefnbjkmmmdagaaR
namespace Go.Proofs.Ytefnbjkmmmdagaa
open Go Go.RowKit
/-- the names a, b, .., p -/
def nm16 : List ByteArray := [⟨#[97]⟩, ⟨#[98]⟩, ⟨#[99]⟩, ⟨#[100]⟩, ⟨#[101]⟩, ⟨#[102]⟩, ⟨#[103]⟩, ⟨#[104]⟩, ⟨#[105]⟩, ⟨#[106]⟩, ⟨#[107]⟩, ⟨#[108]⟩, ⟨#[109]⟩, ⟨#[110]⟩, ⟨#[111]⟩, ⟨#[112]⟩]
def nmAt (i : Nat) : ByteArray := nm16.getD i ⟨#[]⟩
/-- names one above the other -/
def rowP (n : Nat) : List (ByteArray × ByteArray) := (List.range n).flatMap fun i => if 0 < i then [(nmAt (i - 1), nmAt i)] else []
/-- sets, one within the other -/
def setP (k n : Nat) : List (ByteArray × ByteArray) := (List.range n).flatMap fun i => (List.range k).flatMap fun j => if (i >>> j) % 2 = 0 then [(nmAt i, nmAt (i + 2 ^ j))] else []
/-- what LevelsRows asks of a size -/
def rowsOk (k n : Nat) : Bool :=
  decide (idxM n (dOf (nm16.take n) (rowP n)) (2 ^ n - 1) = (n - 1 : Nat)) && (decide (idxM n (uOf (nm16.take n) (setP k n)) (2 ^ n - 1) = 0) && (decide (newE (nm16.take n) (rowP n) = 0) && (decide (newE (nm16.take n) (setP k n) = 0) && ((List.range n).all fun a => (List.range n).all fun b =>
    decide (bd n (uOf (nm16.take n) (rowP n)) a b = (max a b : Nat)) && (decide (bd n (dOf (nm16.take n) (rowP n)) a b = (min a b : Nat)) && (decide (bd n (uOf (nm16.take n) (setP k n)) a b = (a ||| b : Nat)) && (decide (bd n (dOf (nm16.take n) (setP k n)) a b = (a &&& b : Nat)) && ((uOf (nm16.take n) (setP k n) a).testBit b == (a &&& b == a)))))))))
theorem rows1 : rowsOk 1 2 = true := by decide +kernel
theorem rows2 : rowsOk 2 4 = true := by decide +kernel
theorem rows3 : rowsOk 3 8 = true := by decide +kernel
theorem rows4 : rowsOk 4 16 = true := by decide +kernel
end Go.Proofs.Ytefnbjkmmmdagaa
