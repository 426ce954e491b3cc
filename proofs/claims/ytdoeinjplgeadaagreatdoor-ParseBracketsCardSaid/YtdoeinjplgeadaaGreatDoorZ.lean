/- PROVED here: what a row's condition gives: the two errors of strconv lie in memory. No condition but those in each theorem's own head. -/
import Derived.Test.YtdoeinjplgeadaaGreatDoorTkF
import Derived.Test.YtdoeinjplgeadaaGreatDoorRows
import Derived.ProofKit
import Derived.LaidMore
import Derived.OpenShut
import Derived.Stop.Joined
import Derived.Carry
import Derived.Lib.LaidTab
import Derived.ChangeBears2
import Derived.LaidLaws
namespace Go.Proofs.YtdoeinjplgeadaaGreatDoor
open Go Go.ChangeShapes Go.WideShapes Go.ChangeAt Go.RowKit

theorem lit4 : Tryz.prog.underlying 4 = some .bool := by kernel_rfl
theorem ownK : ownKnob Tryz.prog.godebug = none := by kernel_rfl
theorem laidOut : laidOutB Tryz.prog = true := by kernel_rfl
def laid5 : List (String × DataW Unit) := [("math/bits.deBruijn32tab", Rows.laid_math_bits_deBruijn32tab), ("math/bits.deBruijn64tab", Rows.laid_math_bits_deBruijn64tab), ("internal/strconv.uint64pow10", Rows.laid_internal_strconv_uint64pow10), ("strconv.ErrRange", Rows.laid_strconv_ErrRange), ("strconv.ErrSyntax", Rows.laid_strconv_ErrSyntax)]
theorem door_met (os : Os) (args : Array Value) : laidMetH Tryz.prog laid5 ((World.doorLaid Tryz.prog 62 os).forCall (fun _ _ => 0) ⟨#[], args, []⟩).memory :=
  laidMetH_of_parts3 (fuel := 8) (laidMet_of_run' 8 (by kernel_rfl) (by kernel_rfl)) (by kernel_rfl) (by kernel_rfl)
theorem gS : Tryz.prog.globalNamed "strconv.ErrSyntax" = some 1 := by kernel_rfl
theorem gR : Tryz.prog.globalNamed "strconv.ErrRange" = some 2 := by kernel_rfl
theorem tS : (Tryz.prog.globals[1]?).map (·.type) = some 96 := by kernel_rfl
theorem tR : (Tryz.prog.globals[2]?).map (·.type) = some 96 := by kernel_rfl
theorem u96 : ∃ ms, Tryz.prog.underlying 96 = some (.interface ms) := ⟨_, Tryz.underlying96⟩
theorem laid_reads {P : Program} {w : World} : ∀ {l : List (String × DataW Unit)} {ps : List MemPlace}, DataW.LaidVars P w l ps → ∀ n d, (n, d) ∈ l →
    ∃ g t cs fuel p, P.globalNamed n = some g ∧ (P.globals[g]?).map (·.type) = some t ∧ w.var? P n = some cs ∧ DataW.trod (fun _ => ()) P w 0 (fun _ => true) false fuel t cs.toList = some (d, p)
  | [], _, _, _, _, hm => by cases hm
  | (n', d') :: r, ps, h, n, d, hm => by
    obtain ⟨g, t, cs, fuel, p, q, h1, h2, h3, h4, h5, _⟩ := h
    rcases List.mem_cons.1 hm with e | e
    · cases e
      exact ⟨g, t, cs, fuel, p, h1, h2, h3, h4⟩
    · exact laid_reads h5 n d e
theorem err_cell {W : World} {n : String} {g : Nat} {nm : String} {d : DataW Unit} (hg : Tryz.prog.globalNamed n = some g) (ht : (Tryz.prog.globals[g]?).map (·.type) = some 96)
    (h : ∃ g t cs fuel p, Tryz.prog.globalNamed n = some g ∧ (Tryz.prog.globals[g]?).map (·.type) = some t ∧ W.var? Tryz.prog n = some cs ∧ DataW.trod (fun _ => ()) Tryz.prog W 0 (fun _ => true) false fuel t cs.toList = some (.iface nm d, p)) :
    ∃ e, W.cell? ⟨g, 0, none⟩ = some e ∧ (e = .nilIface ∨ ∃ te pe, e = .iface te pe) := by
  obtain ⟨g', t, cs, fuel, p, h1, h2, h3, h4⟩ := h
  obtain rfl : g = g' := Option.some.inj (hg.symm.trans h1)
  obtain rfl : 96 = t := Option.some.inj (ht.symm.trans h2)
  obtain ⟨ms, hu⟩ := u96
  obtain ⟨_, u, v, hcs, _, _⟩ := iface_of_trod hu h4
  refine ⟨.iface u v, ?_, .inr ⟨u, v, rfl⟩⟩
  rw [var?_cell hg h3 0, ← Array.getElem?_toList, hcs]; rfl
theorem errs_of_laid {W : World} (h : laidMetH Tryz.prog laid5 W) : Tk.Errs W := by
  rw [MakeChecks.laidMetH_plain _ _ _ (by kernel_rfl)] at h
  obtain ⟨ps, hv, _⟩ := h
  have hS := laid_reads hv "strconv.ErrSyntax" Rows.laid_strconv_ErrSyntax (by simp [laid5])
  have hR := laid_reads hv "strconv.ErrRange" Rows.laid_strconv_ErrRange (by simp [laid5])
  obtain ⟨e1, h1, k1⟩ := err_cell gS tS hS
  obtain ⟨e2, h2, k2⟩ := err_cell gR tR hR
  exact ⟨e1, e2, h1, k1, h2, k2⟩
end Go.Proofs.YtdoeinjplgeadaaGreatDoor
