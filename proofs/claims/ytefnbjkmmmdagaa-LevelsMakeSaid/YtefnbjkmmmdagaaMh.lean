/- PROVED here: the contract of Names. No condition but those in each theorem's own head. -/
import Derived.Test.YtefnbjkmmmdagaaQ
namespace Go.Proofs.Ytefnbjkmmmdagaa
open Go Go.RowKit

set_option maxRecDepth 100000 in
set_option maxHeartbeats 1500000 in
theorem names_any (g : Nat) (l : List ByteArray) (u d : Nat → Nat) (w : World) (h0 : 0 < l.length) (hl : l.length ≤ 16) (hL : Lat w g l u d) :
    Calls Try.prog 22 #[.pointer (some ⟨g, 0, none⟩)] w fun e w' => ∃ A' c', e = .returned (.slice A' l.length c') ∧ Strs w' A' l ∧ Below w.heap.size w w' := by
  obtain ⟨dn, f, hD, _⟩ := hL
  obtain ⟨A, c, hc, hS⟩ := hD.names
  have HC := Lib.hid (clone_any A c l w h0 hl hS)
  clear hD hS
  go_enter Try.func22, Try.ntmps22
  go_wp2_with (go_at_call 40; refine HC.out.mono ?_; rintro e w' ⟨A', c', rfl, hS', hb⟩)
  go_ret
  exact ⟨A', c', rfl, hS', hb⟩
theorem lw_names {w0 w : World} {g : Nat} {l : List ByteArray} {u d : Nat → Nat} (hL : Latt l.length u d) (h : LW w0 g l u d w) :
    Calls Try.prog 22 #[.pointer (some ⟨g, 0, none⟩)] w fun e w' => ∃ A' c', e = .returned (.slice A' l.length c') ∧ Strs w' A' l ∧ LW w0 g l u d w' ∧ Below w.heap.size w w' :=
  (names_any g l u d w hL.pos hL.le16 h.2.2).mono fun _ _ ⟨A', c', he, hS, hb⟩ => ⟨A', c', he, hS, ⟨h.1, h.2.1.trans (hb.mono h.2.1.size), h.2.2.below hb⟩, hb⟩
end Go.Proofs.Ytefnbjkmmmdagaa
