/- PROVED here: part Fz of the claim. No condition but those in each theorem's own head. -/
import Derived.Test.YtedkgofehbecmaaGreatDoorE02
import Derived.Sort.OwnSortedInts
namespace Go.Proofs.YtedkgofehbecmaaGreatDoor
open Go Go.RowKit Go.Sort
open Tr (Bx heap1 bt Nds Ints BPost IPost rgB Ib)
theorem GR.nd {w : World} {gb M : Nat} {X : Nat → Prop} {G : List Gn} (h : GR w gb M X G) {i : Nat} (hi : i < G.length) : ∃ K c, w.cell? ⟨gb, i * 5, none⟩ = some (.int .i64 G[i].kd) ∧ w.cell? ⟨gb, i * 5 + 1, none⟩ = some (.int .i64 G[i].pl) ∧ w.cell? ⟨gb, i * 5 + 2, none⟩ = some (.int .i64 G[i].pr) ∧ w.cell? ⟨gb, i * 5 + 3, none⟩ = some (.slice K G[i].nx.length c) ∧ w.cell? ⟨gb, i * 5 + 4, none⟩ = some (.int .i64 G[i].rs) ∧ Kd w X K G[i].nx := by
  obtain ⟨cs, hb, _, hc⟩ := h
  obtain ⟨c0, c1, c2, c4, K, c, c3, hk⟩ := hc i hi
  exact ⟨K, c, (hb.cell _).trans c0, (hb.cell _).trans c1, (hb.cell _).trans c2, (hb.cell _).trans c3, (hb.cell _).trans c4, hk⟩
def srtI (zs : List Int) : List Int := zs.mergeSort fun x y => decide (x ≤ y)
/-- what may come after a node -/
def aftL (x : Gn) : List Int := Lib.compact (srtI (x.nx ++ if x.rs = -1 then [] else [x.rs]))
theorem growI0 (w : World) : grow w #[] = w := by simp [grow]
theorem sortI_any {w : World} {base : Nat} {v : Value} {zs : List Int} (h : w.ownsRow base 3 1 v zs.length (zs.map (Value.int .i64))) (hs : zs.length ≤ 4000) (hbs : base ≤ w.heap.size) :
    Calls Tryz.prog 65 #[v] w fun e w' => e = .returned (.tuple #[]) ∧ w'.ownsRow base 3 1 v zs.length ((srtI zs).map (Value.int .i64)) ∧ Below base w w' := by
  rcases h.2 with ⟨h0, h1⟩ | ⟨g', cap', cur, hv, hbase, hb, h1, h2, h3, h4⟩
  · have hz : zs = [] := List.length_eq_zero_iff.1 h1
    subst hz
    subst h0
    refine (Tryz.slices_Sort_int_none none 0 w).mono ?_
    rintro e w' ⟨rfl, rfl⟩
    exact ⟨rfl, by have e : srtI [] = [] := List.mergeSort_nil; rw [e]; exact h, (Below.refl _ _).mono hbs⟩
  · subst hv
    refine (Tryz.slices_Sort_int g' 0 cap' zs w (holds_of_blockI hb (by simpa using h4)) (Array.getElem?_eq_some_iff.1 hb).1 (by omega)).mono ?_
    rintro e w' ⟨rfl, n, os, rfl⟩
    refine ⟨rfl, ownsRow_sortedI (by simp) hbase hb h1 h2 h3, ?_⟩
    exact (Below.refl base w).grown (grownBy_sortedI _) hbs (fun k e => by cases e; exact hbase)
theorem compI_any {w : World} {base : Nat} {v : Value} {zs : List Int} (h : w.ownsRow base 3 1 v zs.length (zs.map (Value.int .i64))) (hs : zs.length ≤ 4000) (hbs : base ≤ w.heap.size) :
    Calls Tryz.prog 66 #[v] w fun e w' => ∃ A c, e = .returned (.slice A (Lib.compact zs).length c) ∧ Ints w' A (Lib.compact zs) ∧ Below base w w' := by
  rcases h.2 with ⟨h0, h1⟩ | ⟨g', cap', cur, hv, hbase, hb, h1, h2, h3, h4⟩
  · have hz : zs = [] := List.length_eq_zero_iff.1 h1
    subst hz
    subst h0
    refine (Tryz.slices_Compact_int_empty none 0 w).mono ?_
    rintro e w' ⟨rfl, rfl⟩
    exact ⟨none, 0, rfl, fun h => absurd h (by decide), (Below.refl _ _).mono hbs⟩
  · subst hv
    have hle := Lib.compact_length_le zs
    refine (Tryz.slices_Compact_int g' 0 cap' zs w (holds_of_blockI hb (by simpa using h4)) (by omega) h1).mono ?_
    rintro e w' ⟨rfl, q, rfl⟩
    have ho := ownsRow_sortedI (w := w) (n := q) (os := #[]) (ss := zs) (ts := Lib.compact zs ++ List.replicate (zs.length - (Lib.compact zs).length) 0) (by rw [List.length_append, List.length_replicate]; omega) hbase hb h1 h2 h3
    have hg := grownBy_sortedI (w := w) (g := g') (n := q) (os := #[]) (Lib.compact zs ++ List.replicate (zs.length - (Lib.compact zs).length) 0).toArray
    rw [growI0] at ho hg
    refine ⟨some ⟨g', 0, none⟩, cap', rfl, fun _ => ⟨g', 0, rfl, (ho.lt g' rfl).2, fun j hj => ?_⟩, (Below.refl base w).grown hg hbs (fun k e => by cases e; exact hbase)⟩
    rw [Nat.zero_add, ho.cellAt j (by omega), List.getElem?_map, List.getElem?_append_left hj, List.getElem?_eq_getElem hj]
    rfl
theorem clone_any {w : World} {X : Nat → Prop} {K : Option Addr} {ks : List Int} (hk : Kd w X K ks) (hl : ks.length ≤ 4000) (c : Nat) (hn : K = none → ks = []) :
    Calls Tryz.prog 64 #[.slice K ks.length c] w fun e w' => ∃ v, e = .returned v ∧ w'.ownsRow w.heap.size 3 1 v ks.length (ks.map (Value.int .i64)) ∧ Below w.heap.size w w' := by
  cases K with
  | none =>
    have hz := hn rfl
    subst hz
    refine (Tryz.slices_Clone_int_nil 0 c w).mono ?_
    rintro e w' ⟨rfl, rfl⟩
    exact ⟨_, rfl, World.ownsRow_nil _ _ _ _, Below.refl _ _⟩
  | some a =>
    by_cases h0 : ks.length = 0
    · have hz : ks = [] := List.length_eq_zero_iff.1 h0
      subst hz
      refine (Tryz.slices_Clone_int_zero a c w).mono ?_
      rintro e w' ⟨v', rfl, ho, _, hb⟩
      exact ⟨_, rfl, ho, hb⟩
    · obtain ⟨b, cs, e, hb, hc, _⟩ := hk (by omega)
      cases e
      refine (Tryz.slices_Clone_int b 0 ks.length c ks w (Nat.le_refl _) (by omega) (fun j hj => ?_)).mono ?_
      · rw [cell_of_row w b (0 + j) _ 3 (0, 0) hb, Nat.zero_add, hc j hj, List.getD_eq_getElem?_getD, List.getElem?_eq_getElem hj]; rfl
      · rintro e w' ⟨v', rfl, ho, _, hb⟩
        rw [List.take_length] at ho
        exact ⟨_, rfl, ho, hb⟩
end Go.Proofs.YtedkgofehbecmaaGreatDoor
