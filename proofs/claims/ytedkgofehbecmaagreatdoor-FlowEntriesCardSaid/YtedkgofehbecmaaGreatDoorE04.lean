/- PROVED here: part Fy of the claim. No condition but those in each theorem's own head. -/
import Derived.Test.YtedkgofehbecmaaGreatDoorE03
namespace Go.Proofs.YtedkgofehbecmaaGreatDoor
open Go Go.RowKit
open Tr (Bx heap1 bt Nds Ints BPost IPost rgB Ib)
def IsP (ts : List Int) (w : World) (e : Ending) (w' : World) : Prop := ∃ A c, e = .returned (.slice A ts.length c) ∧ Ints w' A ts ∧ Below w.heap.size w w'
set_option maxRecDepth 100000 in
set_option maxHeartbeats 4000000 in
theorem after_in {w : World} {gb M : Nat} {X : Nat → Prop} {G : List Gn} (h : GR w gb M X G) (c : Nat) (PA : Option Addr) (np cp : Nat) {i : Nat} (hi : i < G.length) (hl : G[i].nx.length ≤ 3000) :
    Calls Tryz.prog 27 #[.agg #[.slice (some ⟨gb, 0, none⟩) G.length c, .slice PA np cp], .int .i64 (i : Int)] w (IsP (aftL G[i]) w) := by
  obtain ⟨N, hNe⟩ : ∃ N, G.length = N := ⟨_, rfl⟩
  rw [hNe]
  have hb0 := heap1 w (.cells #[.slice (some ⟨gb, 0, none⟩) N c, .slice PA np cp] 30)
  have HX := Lib.hid (Bx.new w 30 [.slice (some ⟨gb, 0, none⟩) N c, .slice PA np cp])
  have hh := ghas_any (w.alloc (.cells #[.slice (some ⟨gb, 0, none⟩) N c, .slice PA np cp] 30)) (some ⟨gb, 0, none⟩) PA N c np cp (i : Int)
  rw [decide_eq_true (show 0 ≤ (i : Int) ∧ (i : Int) < (N : Int) by omega)] at hh
  have HB0 := Lib.hid hb0
  have HG := Lib.hid (h.below hb0)
  obtain ⟨W0, hW0⟩ : ∃ W0, w.alloc (.cells #[.slice (some ⟨gb, 0, none⟩) N c, .slice PA np cp] 30) = W0 := ⟨_, rfl⟩
  rw [hW0] at hh HX HB0 HG
  have HH := Lib.hid hh
  have HGL := Lib.hid hi
  have hiz : (i : Int) < (N : Int) := by omega
  obtain ⟨x, hx⟩ : ∃ x, G[i]'hi = x := ⟨_, rfl⟩
  rw [hx] at hl
  have HXE := Lib.hid hx
  rw [hx]
  have HNX := Lib.hid hl
  obtain ⟨kd, pl, pr, nx, rs⟩ := x
  dsimp only at hl
  obtain ⟨ln, hln⟩ : ∃ ln, nx.length = ln := ⟨_, rfl⟩
  have HLN := Lib.hid hln
  have HNI := Lib.hid hNe
  have a0 := (HX.out.cell 0).trans rfl
  have a1 := (HX.out.cell 1).trans rfl
  clear h hb0 hh hx hl hln hNe
  go_enter Tryz.func27, Tryz.ntmps27
  go_wp2_with (go_at_call 63; refine HH.out.mono ?_)
  rintro e w1 ⟨rfl, hb1⟩
  have hx1 := HX.out.below hb1 HX.out.lt
  have HB1 := Lib.hid (bt HB0.out hb1)
  have hg1 := HG.out.below hb1
  obtain ⟨K, ck, -, -, -, y3, y4, hk⟩ := hg1.nd HGL.out
  rw [HXE.out] at y3 y4 hk
  dsimp only at y3 y4 hk
  rw [HLN.out] at y3
  have HY4 := Lib.hid (fun (W : World) (q : Below w1.heap.size w1 W) => show W.cell? ⟨gb, i * 5 + 4, none⟩ = some (.int .i64 rs) from (q.cell (p := ⟨gb, i * 5 + 4, none⟩) hg1.lt).trans y4)
  have HX1 := Lib.hid hx1
  have hcl := clone_any hk (by have := HNX.out; omega) ck (fun e => Classical.byContradiction fun hne => by
    obtain ⟨b, cs, e2, _⟩ := hk (List.length_pos_iff.2 hne)
    rw [e] at e2; cases e2)
  rw [HLN.out] at hcl
  have HCL := Lib.hid hcl
  clear a0 a1
  have a0 := (hx1.cell 0).trans rfl
  have hln3 : ln ≤ 3000 := by have := HNX.out; have := HLN.out; omega
  clear hb1 hx1 hg1 hk hcl y4 hW0
  go_upto_region 4 with (go_at_call 64; refine HCL.out.mono ?_; rintro e w2 ⟨v, rfl, ho, hb2⟩)
  have hx2 := HX1.out.below hb2 HX1.out.lt
  clear a0 y3
  have a0 := (hx2.cell 0).trans rfl
  have y4 := HY4.out _ hb2
  have HO := Lib.hid ho
  have HB2 := Lib.hid hb2
  have HSZ := Lib.hid hb2.size
  obtain ⟨VA, vc, hv⟩ := own_slice ho
  by_cases hrs : rs = -1
  · subst hrs
    have HS := Lib.hid (fun (W : World) (q : W.ownsRow w1.heap.size 3 1 v ln (nx.map (Value.int .i64))) (z : w1.heap.size ≤ W.heap.size) => show Calls Tryz.prog 65 #[v] W _ from sortI_any (zs := nx) (by rw [HLN.out]; exact q) (by rw [HLN.out]; omega) z)
    have HC := Lib.hid (fun (W : World) (q : W.ownsRow w1.heap.size 3 1 v (srtI nx).length ((srtI nx).map (Value.int .i64))) (z : w1.heap.size ≤ W.heap.size) => show Calls Tryz.prog 66 #[v] W _ from compI_any q (by unfold srtI; rw [List.length_mergeSort, HLN.out]; omega) z)
    have HR := Lib.hid (show aftL ⟨kd, pl, pr, nx, -1⟩ = Lib.compact (srtI nx) by unfold aftL; simp)
    have HSL := Lib.hid (show (srtI nx).length = ln by unfold srtI; rw [List.length_mergeSort, HLN.out])
    clear hx2 hb2 ho hv
    go_wp2_with (first | (go_at_call 65; refine (HS.out _ HO.out HSZ.out).mono ?_; rintro e w3 ⟨rfl, ho3, hb3⟩; have HO3 := Lib.hid ho3; have HB3 := Lib.hid hb3; clear ho3 hb3) | (go_at_call 66; refine (HC.out _ (by have t := HO3.out; rw [HLN.out] at t; rw [HSL.out]; exact t) (Nat.le_trans HSZ.out HB3.out.size)).mono ?_; rintro e w4 ⟨A4, c4, rfl, hI4, hb4⟩))
    go_ret
    rw [HR.out]
    exact ⟨A4, c4, rfl, hI4, bt HB1.out (HB2.out.trans (HB3.out.trans hb4))⟩
  · have hne : (rs != -1) = true := bne_iff_ne.2 hrs
    have HS := Lib.hid (fun (v : Value) (W : World) (q : W.ownsRow w1.heap.size 3 1 v (ln + 1) ((nx ++ [rs]).map (Value.int .i64))) (z : w1.heap.size ≤ W.heap.size) => show Calls Tryz.prog 65 #[v] W _ from sortI_any (zs := nx ++ [rs]) (by rw [List.length_append, HLN.out]; exact q) (by rw [List.length_append, HLN.out]; simp; omega) z)
    have HC := Lib.hid (fun (v : Value) (W : World) (q : W.ownsRow w1.heap.size 3 1 v (srtI (nx ++ [rs])).length ((srtI (nx ++ [rs])).map (Value.int .i64))) (z : w1.heap.size ≤ W.heap.size) => show Calls Tryz.prog 66 #[v] W _ from compI_any q (by unfold srtI; rw [List.length_mergeSort, List.length_append, HLN.out]; simp; omega) z)
    have HR := Lib.hid (show aftL ⟨kd, pl, pr, nx, rs⟩ = Lib.compact (srtI (nx ++ [rs])) by unfold aftL; simp [hrs])
    have HSL := Lib.hid (show (srtI (nx ++ [rs])).length = (nx ++ [rs]).length by unfold srtI; rw [List.length_mergeSort])
    have HOL := Lib.hid (show w2.ownsRow w1.heap.size 3 1 v nx.length (nx.map (Value.int .i64)) by rw [HLN.out]; exact ho)
    have HV := Lib.hid hv
    have HNL := Lib.hid (show nx.length ≤ 900000 by rw [HLN.out]; omega)
    clear hx2 hb2 ho hrs
    subst hv
    go_wp2_with (first | (at_builtin; refine pr_append rfl _ _ rfl rs HOL.out HSZ.out rfl rfl HNL.out ?_; intro v3 w3 ho3 hg3 hf3; have hb3 := ((Below.refl w1.heap.size w2).alloc HSZ.out (.cells #[.int .i64 rs] 3)).grown hg3 (by rw [World.size_alloc]; have := HSZ.out; omega) (fun k e => (HOL.out.lt k e).1); have HO3 := Lib.hid ho3; have HB3 := Lib.hid hb3; clear ho3 hg3 hf3 hb3) | (go_at_call 65; refine (HS.out _ _ (by have t := HO3.out; rw [HLN.out] at t; rw [List.map_append]; exact t) (Nat.le_trans HSZ.out HB3.out.size)).mono ?_; rintro e w4 ⟨rfl, ho4, hb4⟩; have HO4 := Lib.hid ho4; have HB4 := Lib.hid hb4; clear ho4 hb4) | (go_at_call 66; refine (HC.out _ _ (by rw [HSL.out]; exact HO4.out) (Nat.le_trans (Nat.le_trans HSZ.out HB3.out.size) HB4.out.size)).mono ?_; rintro e w5 ⟨A5, c5, rfl, hI5, hb5⟩))
    go_ret
    rw [HR.out]
    exact ⟨A5, c5, rfl, hI5, bt HB1.out (HB2.out.trans (HB3.out.trans (HB4.out.trans hb5)))⟩
end Go.Proofs.YtedkgofehbecmaaGreatDoor
