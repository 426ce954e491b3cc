/- PROVED here: the contracts of the document's own Or, And, Minus, Within and Same over lists that rise. No condition but those in each theorem's own head. -/
import Derived.Test.YtabdhmfjbielaaaDoorRm
namespace Go.Proofs.YtabdhmfjbielaaaDoor
open Go Go.RowKit

/-- a set, and the numbers of a list more -/
def addL (s : Nat) (l : List Int) : Nat := l.foldl addI s
theorem addL_take (s : Nat) (l : List Int) (k : Nat) (hk : k < l.length) : addL s (l.take (k + 1)) = addI (addL s (l.take k)) (l.getD k 0) := by
  unfold addL
  rw [List.take_succ_eq_append_getElem hk, List.foldl_append]
  simp [hk]
theorem addL_els (s t : Nat) (ht : Small t) : addL s (els t 4096) = s ||| t := by
  apply Nat.eq_of_testBit_eq; intro j
  have h := ofL_bit (els t 4096) j
  rw [ofL_els ht] at h
  unfold addL
  rw [fold_bit, Nat.testBit_or, h]
theorem heap3 (w : World) (A B C : Obj) : (((w.alloc A).alloc B).alloc C).heap[w.heap.size]? = some A ∧ (((w.alloc A).alloc B).alloc C).heap[w.heap.size + 1]? = some B ∧ (((w.alloc A).alloc B).alloc C).heap[w.heap.size + 1 + 1]? = some C :=
  ⟨(Below.heap_alloc _ _ _ (by simp; omega)).trans (heap_alloc2_old w _ _), (Below.heap_alloc _ _ _ (by simp)).trans (heap_alloc2_new w _ _), by simpa using heap_alloc_new ((w.alloc A).alloc B) C⟩
/-- what the loop of Or knows -/
def OrR (w : World) (s : Nat) (l : List Int) (vt : Value) (k : Nat) (wr : World) : Prop :=
  ∃ lk A c, Hid (els (addL s (l.take k)) 4096 = lk) ∧ RL wr A c lk ∧ Below w.heap.size w wr ∧ w.heap.size + 3 ≤ wr.heap.size ∧ Blk1 wr w.heap.size (.slice A lk.length c) ∧ Blk1 wr (w.heap.size + 1) vt ∧ Blk1 wr (w.heap.size + 1 + 1) (.slice none 0 0)

set_option maxRecDepth 100000 in
set_option maxHeartbeats 4000000 in
theorem ROr (s : Nat) (l : List Int) (H : Hid (els s 4096 = l)) (A : Option Addr) (c : Nat) (m : List Int) (B : Option Addr) (d : Nat) (w : World) (hR : RL w A c l) (hM : RL w B d m) (hm : m.length ≤ 4096) :
    Calls Tryd.prog 25 #[.agg #[.slice A l.length c], .agg #[.slice B m.length d]] w (RPost (els (addL s m) 4096) w) := by
  have HM := Lib.hid hM
  have HR0 := Lib.hid hR
  clear hM hR
  go_enter Tryd.func25, Tryd.ntmps25
  go_upto_region 1 with fail
  refine gen_world (fun w1 => OrR w s m (.slice B m.length d) 0 w1) ⟨l, A, c, H, HR0.out.below (below3 w _ _ _), below3 w _ _ _, by simp, (heap3 w _ _ _).1, (heap3 w _ _ _).2.1, (heap3 w _ _ _).2.2⟩ ?_
  intro w1 hO
  go_wp2_with fail
  go_loopw [5] (fun i wr => ∃ k : Nat, k ≤ m.length ∧ i = .int .i64 k ∧ OrR w s m (.slice B m.length d) k wr) (fun i _ => m.length - (intOf i).toNat)
  case atStart => exact ⟨0, by omega, rfl, hO⟩
  case round =>
    clear hO
    obtain ⟨k, hk, rfl, lk, A1, c1, HE, hR, hb, hz, b1, b2, b3⟩ := hrel
    have x1 := b1.cell
    have f1 := b1.frozen
    have x2 := b2.cell
    by_cases hlt : k < m.length
    · have hlz : (k : Int) < (m.length : Int) := by omega
      obtain ⟨b, off, rfl, hbl, hcell⟩ := HM.out.1 (by omega)
      have hck : wr.cell? ⟨b, off + k, none⟩ = some (.int .i64 (m.getD k 0)) := (hb.cell (p := ⟨b, off + k, none⟩) hbl).trans (hcell k hlt)
      have HST := Lib.hid (addL_take s m k hlt)
      clear hcell
      generalize hx : m.getD k 0 = x at *
      clear hx
      go_upto_region 4 with fail
      go_region_with (go_at_call 14; refine (RWith _ lk HE A1 c1 x wr.drew hR).mono ?_; rintro e w2 ⟨A2, c2, rfl, hR2, hb2⟩; have b1' : Blk1 w2 _ _ := (hb2.block _ (by simp; omega)).trans b1; have x1' := b1'.cell; have f1' := b1'.frozen)
      all_goals
        have b2' : Blk1 w2 _ _ := (hb2.block _ (by simp; omega)).trans b2
        have b3' : Blk1 w2 _ _ := (hb2.block _ (by simp; omega)).trans b3
        have hb' : Below w.heap.size w w2 := Below.trans (b := wr.drew) ⟨hb.os, hb.tape, hb.output, hb.size, hb.block⟩ (hb2.mono hb.size)
        have hz' : w.heap.size + 3 ≤ w2.heap.size := by have := hb2.size; simp at this; omega
        have hn := hR2.ne b1'
        have HO : OrR w s m (.slice (some ⟨b, off, none⟩) m.length d) (k + 1) (w2.setCell ⟨w.heap.size, 0, none⟩ (.slice A2 (els (addI (addL s (m.take k)) x) 4096).length c2)) :=
          ⟨_, A2, c2, Lib.hid (by rw [HST.out]), hR2.setCell2 hn _, hb'.setCell (by simp) _, by simpa using hz', b1'.set_ _, b2'.far (by simp) _, b3'.far (by show w.heap.size + 1 + 1 ≠ w.heap.size; omega) _⟩
        clear hb' hz' hn b1' b2' b3' x1' f1' hR2 hb2 hR hb hz b1 b2 b3 x1 x2 f1 hck
        generalize (els (addI (addL s (m.take k)) x) 4096).length = ln at *
        go_wp2
        go_roundw
        case rel => exact ⟨k + 1, by omega, by go_num, HO⟩
        case measure => simp [intOf]; omega
    · have hlz : ¬ (k : Int) < (m.length : Int) := by omega
      have HF := Lib.hid (show els (addL s m) 4096 = lk by have := HE.out; rwa [List.take_of_length_le (by omega)] at this)
      have hn := hR.ne b3
      have x3 := b3.cell
      have f3 := b3.frozen
      go_wp2
      refine ret30 rfl rfl rfl (b3.set_ _) ⟨A1, c1, by rw [HF.out], ?_, hb.setCell (by show w.heap.size ≤ w.heap.size + 1 + 1; omega) _⟩
      rw [HF.out]
      exact hR.setCell2 hn _
end Go.Proofs.YtabdhmfjbielaaaDoor
