/- PROVED here: the contract of Over. No condition but those in each theorem's own head. -/
import Derived.Test.YtcnmkmdedeiffaaH
namespace Go.Proofs.Ytcnmkmdedeiffaa
open Go Go.RowKit

abbrev Tr := List Nd × Int
/-- a slice of trees -/
def Trs (w : World) (A : Option Addr) (ts : List Tr) : Prop :=
  0 < ts.length → ∃ b off, A = some ⟨b, off, none⟩ ∧ b < w.heap.size ∧ ∀ j (hj : j < ts.length), ∃ K c, w.cell? ⟨b, off + j * 2, none⟩ = some (.slice K ts[j].1.length c) ∧ w.cell? ⟨b, off + j * 2 + 1, none⟩ = some (.int .i64 ts[j].2) ∧ Nds w K ts[j].1 ∧ ts[j].1.length ≤ c
theorem Trs.below {w w' : World} {A : Option Addr} {ts : List Tr} (h : Trs w A ts) (hb : Below w.heap.size w w') : Trs w' A ts := fun h0 => by
  obtain ⟨b, off, e, hl, hc⟩ := h h0
  refine ⟨b, off, e, Nat.lt_of_lt_of_le hl hb.size, fun j hj => ?_⟩
  obtain ⟨K, c, c0, c1, hK, hc⟩ := hc j hj
  exact ⟨K, c, (hb.cell (p := ⟨b, off + j * 2, none⟩) hl).trans c0, (hb.cell (p := ⟨b, off + j * 2 + 1, none⟩) hl).trans c1, hK.below hb, hc⟩
/-- the nodes of trees, one tree behind the other -/
def ovA (ts : List Tr) : List Nd := ts.foldl (fun acc t => acc ++ t.1.map (mvN (acc.length : Int))) []
theorem ovA_snoc (ts : List Tr) (t : Tr) : ovA (ts ++ [t]) = ovA ts ++ t.1.map (mvN ((ovA ts).length : Int)) := by unfold ovA; rw [List.foldl_append]; rfl
def rtF (ts : List Tr) (j : Nat) : Int := wrap64 (((ovA (ts.take j)).length : Int) + (ts.getD j ([], 0)).2)
def rts (ts : List Tr) : List Int := (List.range ts.length).map (rtF ts)
def ovL (kd n pl : Int) (tx : ByteArray) (ts : List Tr) : List Nd := ovA ts ++ [⟨kd, n, pl, tx, rts ts⟩]
theorem own_slice {base n : Nat} {v : Value} {ls : List Value} {w : World} (h : w.ownsRow base 24 5 v n ls) : ∃ A c, v = .slice A n c := by
  rcases h.2 with ⟨rfl, e⟩ | ⟨g, cap, cur, rfl, _⟩
  · exact ⟨_, _, by rw [e]⟩
  · exact ⟨_, _, rfl⟩
theorem own_row24 {base n : Nat} {v : Value} {ls : List Value} {w : World} (h : w.ownsRow base 24 5 v n ls) : ∀ g, v.ownBlock = some g → ∃ cs, w.heap[g]? = some (.cells cs 24 (0, 0)) := fun g hg => by
  rcases h.2 with ⟨rfl, e⟩ | ⟨g', cap, cur, rfl, _, h3, _⟩
  · cases hg
  · cases hg; exact ⟨cur, h3⟩
theorem own_mono {base base' n : Nat} {v : Value} {ls : List Value} {w : World} (h : w.ownsRow base 24 5 v n ls) (hb : base' ≤ base) : w.ownsRow base' 24 5 v n ls :=
  ⟨h.1, h.2.imp id fun ⟨g, cap, cur, h1, h2, h3⟩ => ⟨g, cap, cur, h1, Nat.le_trans hb h2, h3⟩⟩
theorem own_below {base n : Nat} {v : Value} {ls : List Value} {w w' : World} (h : w.ownsRow base 24 5 v n ls) (hb : Below w.heap.size w w') : w'.ownsRow base 24 5 v n ls :=
  ⟨h.1, h.2.imp id fun ⟨g, cap, cur, h1, h2, h3, h4⟩ => ⟨g, cap, cur, h1, h2, (hb.block g (Array.getElem?_eq_some_iff.1 h3).1).trans h3, h4⟩⟩
theorem fl_one (ls : List AN) : ∀ v ∈ fl ls, v.oneCell' = true := fun v hv => by
  obtain ⟨x, _, hx⟩ := List.mem_flatMap.1 hv
  unfold AN.cv at hx
  simp at hx
  rcases hx with rfl | rfl | rfl | rfl | rfl <;> rfl
end Go.Proofs.Ytcnmkmdedeiffaa
