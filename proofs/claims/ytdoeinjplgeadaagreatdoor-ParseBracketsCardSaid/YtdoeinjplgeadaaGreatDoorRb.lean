/- PROVED here: what the parser tells of four texts. No condition but those in each theorem's own head. -/
import Derived.Test.YtdoeinjplgeadaaGreatDoorRa
namespace Go.Proofs.YtdoeinjplgeadaaGreatDoor
open Go Go.RowKit
open Tr (Bx heap1 bt gen_world ret_int ret_bool cell_same)

def tx1 : List UInt8 := [49, 43, 50, 42, 120]
def tx2 : List UInt8 := [40, 49]
def tx3 : List UInt8 := [49, 32, 50]
def tx4 : List UInt8 := [112, 114, 111, 99, 32, 102, 40, 41, 32, 123, 32, 120, 32, 61, 32, 59, 32, 125]
def nd1 : List Nd := [⟨20, 1, 0, [], []⟩, ⟨20, 2, 2, [], []⟩, ⟨22, 0, 4, [120], []⟩, ⟨27, 0, 3, [42], [1, 2]⟩, ⟨27, 0, 1, [43], [0, 3]⟩]
def ts1 : List Tk.Tok := [⟨2, 1, 0, [49]⟩, ⟨3, 0, 1, [43]⟩, ⟨2, 2, 2, [50]⟩, ⟨3, 0, 3, [42]⟩, ⟨1, 0, 4, [120]⟩, ⟨5, 0, 5, []⟩]
def ts2 : List Tk.Tok := [⟨3, 0, 0, [40]⟩, ⟨2, 1, 1, [49]⟩, ⟨5, 0, 2, []⟩]
def ts3 : List Tk.Tok := [⟨2, 1, 0, [49]⟩, ⟨2, 2, 2, [50]⟩, ⟨5, 0, 3, []⟩]
def ts4 : List Tk.Tok := [⟨4, 0, 0, wProc⟩, ⟨1, 0, 5, [102]⟩, ⟨3, 0, 6, [40]⟩, ⟨3, 0, 7, [41]⟩, ⟨3, 0, 9, [123]⟩, ⟨1, 0, 11, [120]⟩, ⟨3, 0, 13, [61]⟩, ⟨3, 0, 15, [59]⟩, ⟨3, 0, 17, [125]⟩, ⟨5, 0, 18, []⟩]
theorem cut1 : Tk.cutR tx1 0 = .ok ts1 := by decide +kernel
theorem cut2 : Tk.cutR tx2 0 = .ok ts2 := by decide +kernel
theorem cut3 : Tk.cutR tx3 0 = .ok ts3 := by decide +kernel
theorem cut4 : Tk.cutR tx4 0 = .ok ts4 := by decide +kernel
theorem par1 : exprR (ts1.map cvT) = .ok [4] ⟨5, nd1, 0, 0⟩ := by decide +kernel
theorem par2 : exprR (ts2.map cvT) = .no 2 2 := by decide +kernel
theorem par3 : exprR (ts3.map cvT) = .no 2 2 := by decide +kernel
theorem par4 : progR (ts4.map cvT) = .no 15 2 := by decide +kernel
theorem dep1 : Tr.dpt (nd1.map cvN) 4 ≤ 40 := by
  by_cases h : Tr.Snd (nd1.map cvN) 4
  · rw [Tr.dpt_yes h]
    have e : Tr.dpL (nd1.map cvN) (nd1.map cvN).length ((nd1.map cvN).length - 1) = 3 := by decide +kernel
    rw [e]; decide
  · rw [Tr.dpt_no h]; decide
theorem ansOf_no {R : List Tok → Rs} {l : List UInt8} {ts : List Tk.Tok} {p e : Nat} (h1 : Tk.cutR l 0 = .ok ts) (h2 : R (ts.map cvT) = .no p e) : ansOf R l = .bad p e := by
  unfold ansOf; rw [h1]; show (match R (ts.map cvT) with | .out => Ans.bad 0 0 | .no p e => .bad p e | .ok _ s => if 4000 < s.nd.length then .bad 0 8 else if 40 < Tr.dpt (s.nd.map cvN) ((s.nd.length : Int) - 1) then .bad 0 6 else .good s.nd s.mo) = _; rw [h2]
theorem ansOf_ok {R : List Tok → Rs} {l : List UInt8} {ts : List Tk.Tok} {v : List Int} {s : St} (h1 : Tk.cutR l 0 = .ok ts) (h2 : R (ts.map cvT) = .ok v s) : ansOf R l = if 4000 < s.nd.length then .bad 0 8 else if 40 < Tr.dpt (s.nd.map cvN) ((s.nd.length : Int) - 1) then .bad 0 6 else .good s.nd s.mo := by
  unfold ansOf; rw [h1]; show (match R (ts.map cvT) with | .out => Ans.bad 0 0 | .no p e => .bad p e | .ok _ s => if 4000 < s.nd.length then .bad 0 8 else if 40 < Tr.dpt (s.nd.map cvN) ((s.nd.length : Int) - 1) then .bad 0 6 else .good s.nd s.mo) = _; rw [h2]
theorem ansOf_cut {R : List Tok → Rs} {l : List UInt8} {p : Nat} (h1 : Tk.cutR l 0 = .bad p) : ansOf R l = .bad p 2 := by unfold ansOf; rw [h1]
theorem ans1 : ansOf exprR tx1 = .good nd1 0 := by
  rw [ansOf_ok cut1 par1, if_neg (by decide), if_neg (by have := dep1; show ¬ 40 < Tr.dpt (nd1.map cvN) 4; omega)]
theorem ans2 : ansOf exprR tx2 = .bad 2 2 := ansOf_no cut2 par2
theorem ans3 : ansOf exprR tx3 = .bad 2 2 := ansOf_no cut3 par3
theorem ans4 : ansOf progR tx4 = .bad 15 2 := ansOf_no cut4 par4
end Go.Proofs.YtdoeinjplgeadaaGreatDoor
