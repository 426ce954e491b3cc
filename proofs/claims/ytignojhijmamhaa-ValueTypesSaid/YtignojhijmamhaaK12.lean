/- PROVED here: parts TyPu TyXu TyXv of the claim. No condition but those in each theorem's own head. -/
import Derived.Test.YtignojhijmamhaaK07
import Derived.Deep.LoopGhost
import Derived.Deep.Light
import Derived.Laws.AppendOwnNone
import Derived.Laws.EntriesVeiled
import Derived.Recover
import Derived.Tactics2
import Derived.Laws.Pointers
import Derived.Test.YtignojhijmamhaaK02
import Derived.Test.YtignojhijmamhaaK01
import Derived.Laws.Strings2
import Derived.Shelf.LaysM
import Derived.Shelf.LaysC
import Derived.Shelf.Strconv.ParseIntPublic10
import Derived.Test.YtignojhijmamhaaProg
namespace Go.Proofs.Ytignojhijmamhaa.Ty
open Go Go.RowKit
open Tr (Bx heap1 bt gen_world ret_bool cell_same)
section
theorem info3 : (Try.prog.info? 3).map (fun i => (i.zero, i.size, i.bytes)) = some (some (.int .i64 0), 1, 8) := by kernel_rfl
end
end Go.Proofs.Ytignojhijmamhaa.Ty
namespace Go.Proofs.Ytignojhijmamhaa.Ty
open Go Go.RowKit
open Tr (Bx heap1 bt Nds Ints)
theorem own_ints {base : Nat} {v : Value} {l : List Int} {w : World} (h : w.ownsRow base 3 1 v l.length (l.map (Value.int .i64))) : ∃ A c, v = .slice A l.length c ∧ Ints w A l := by
  rcases h.2 with ⟨e, e2⟩ | ⟨g, cap, cur, rfl, h2, h3, h4⟩
  · exact ⟨none, 0, by rw [e, e2], fun h0 => by omega⟩
  · refine ⟨_, _, rfl, fun _ => ⟨g, 0, rfl, (Array.getElem?_eq_some_iff.1 h3).1, fun j hj => ?_⟩⟩
    have := h.cellAt j (by omega)
    rw [Nat.zero_add, this, List.getElem?_map, List.getElem?_eq_getElem hj]
    rfl
theorem own_block {base n : Nat} {v : Value} {xs : List Value} {w : World} (h : w.ownsRow base 3 1 v n xs) : ∀ g, v.ownBlock = some g → base ≤ g ∧ g < w.heap.size ∧ ∃ cs, w.heap[g]? = some (.cells cs 3 (0, 0)) := fun g hg => by
  rcases h.2 with ⟨e, _⟩ | ⟨g', cap, cur, rfl, h2, h3, h4⟩
  · rw [e] at hg; simp [Value.ownBlock] at hg
  · simp only [Value.ownBlock, Option.some.injEq] at hg
    subst hg
    exact ⟨h2, (Array.getElem?_eq_some_iff.1 h3).1, _, h3⟩
end Go.Proofs.Ytignojhijmamhaa.Ty
namespace Go.Proofs.Ytignojhijmamhaa.Ty
open Go Go.RowKit
open Tr (Bx heap1 bt Nds Ints)
theorem filt_step {q : Int → Bool} {ks : List Int} {i : Nat} (h : i < ks.length) : (ks.take (i + 1)).filter q = (ks.take i).filter q ++ (if q ks[i] then [ks[i]] else []) := by
  rw [List.take_succ_eq_append_getElem h, List.filter_append]
  congr 1
  cases hq : q ks[i] <;> simp [hq]
end Go.Proofs.Ytignojhijmamhaa.Ty
