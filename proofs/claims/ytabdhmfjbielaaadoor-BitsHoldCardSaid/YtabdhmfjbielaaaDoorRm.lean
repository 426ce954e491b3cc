/- PROVED here: the contract of the document's own With, and of Of, over lists that rise. No condition but those in each theorem's own head. -/
import Derived.Test.YtabdhmfjbielaaaDoorRk
import Derived.Deep.RegionWith
namespace Go.Proofs.YtabdhmfjbielaaaDoor
open Go Go.RowKit

set_option maxRecDepth 100000 in
set_option maxHeartbeats 2000000 in
/-- the number is there -/
theorem rwith_there (A : Option Addr) (c : Nat) (l : List Int) (n : Int) (w : World) (hR : RL w A c l) (hl : l.length ≤ 4096) (h0 : 0 ≤ n) (h1 : n < 4096) (hh : inL l n = true) :
    Calls Tryd.prog 14 #[.agg #[.slice A l.length c], .int .i64 n] w (RPost l w) := by
  have HR := Lib.hid hR
  have hd : decide ((4096 : Int) ≤ n) = false := by simpa using h1
  have hHas := fun w hI => RHas A c l n w hl hI
  rw [hh] at hHas
  have HH := Lib.hid hHas
  clear hHas hh hR
  go_enter Tryd.func14, Tryd.ntmps14
  go_upto_region 1 with fail
  refine gen_world (fun w1 => Below w.heap.size w w1 ∧ w1.heap.size = w.heap.size + 2 ∧ Blk1 w1 w.heap.size (.slice A l.length c) ∧ Blk1 w1 (w.heap.size + 1) (.slice none 0 0)) ⟨below2 w _ _, by simp, heap_alloc2_old w _ _, heap_alloc2_new w _ _⟩ ?_
  rintro w1 ⟨hb, hz, b1, b2⟩
  have c1 := b1.cell
  go_upto_region 2 with (go_at_call 18; refine (HH.out _ (HR.out.1.below hb)).mono ?_; rintro e w2 ⟨rfl, hb2⟩)
  have b1' : Blk1 w2 _ _ := (hb2.block _ (by omega)).trans b1
  have b2' : Blk1 w2 _ _ := (hb2.block _ (by omega)).trans b2
  have hb' : Below w.heap.size w w2 := Below.trans hb (hb2.mono hb.size)
  clear hb hz b1 b2 c1 hb2 HH
  have c1 := b1'.cell
  have c2 := b2'.cell
  have f2 := b2'.frozen
  have hbk : ∀ b off, A = some ⟨b, off, none⟩ → 0 < l.length → b ≠ w.heap.size + 1 := fun b off e h0 => by
    obtain ⟨b', off', e', hl, _⟩ := HR.out.1 h0
    rw [e] at e'; injection e' with e'; injection e' with e1 _; omega
  go_wp2
  exact ret30 rfl rfl rfl (b2'.set_ _) ⟨A, c, rfl, RL.setCell2 (HR.out.below hb') hbk _, hb'.setCell (by simp) _⟩

theorem RWith (s : Nat) (l : List Int) (H : Hid (els s 4096 = l)) (A : Option Addr) (c : Nat) (n : Int) (w : World) (hR : RL w A c l) :
    Calls Tryd.prog 14 #[.agg #[.slice A l.length c], .int .i64 n] w (RPost (els (addI s n) 4096) w) := by
  have hl : l.length ≤ 4096 := by rw [← H.out]; exact els_len s 4096
  unfold addI
  by_cases hf : 0 ≤ n ∧ n < 4096
  · rw [if_pos hf]
    obtain ⟨m, rfl⟩ : ∃ m : Nat, n = m := ⟨n.toNat, by omega⟩
    have hm : m < 4096 := by omega
    rw [Int.toNat_natCast]
    have hin := inL_els s m hm
    rw [H.out] at hin
    cases hb : s.testBit m with
    | true =>
      rw [els_same hb, H.out]
      exact rwith_there A c l m w hR hl (by omega) (by omega) (hin.trans hb)
    | false =>
      refine rwith_put A c l _ m w hR hl (by omega) (by omega) (hin.trans hb) (Lib.hid fun k hk h1 h2 => ?_)
      rw [els_add hm hb]
      rw [← H.out] at hk h1 h2 ⊢
      obtain ⟨e1, e2⟩ := ins_at (by omega) hk h1 h2
      rw [e1, e2, List.append_assoc]; rfl
  · rw [if_neg hf, H.out]
    exact rwith_no A c l n w hR hf
theorem els_zero : ∀ m, els 0 m = []
  | 0 => rfl
  | m + 1 => by rw [els_succ, els_zero m]; simp
theorem RL.nil (w : World) : RL w none 0 [] := ⟨fun h => by simp at h, by simp, by omega⟩

theorem RL.ne {w : World} {A : Option Addr} {c : Nat} {l : List Int} (h : RL w A c l) {g : Nat} {B : Option Addr} {m d : Nat} (hg : Blk1 w g (.slice B m d)) : ∀ b off, A = some ⟨b, off, none⟩ → 0 < l.length → b ≠ g := fun b off e h0 e2 => by
  obtain ⟨b', off', e', _, hc⟩ := h.1 h0
  rw [e] at e'; injection e' with e'; injection e' with e1 e3
  subst e1; subst e3; subst e2
  have h1 := hc 0 h0
  rw [cell_of_row w b (off + 0) #[.slice B m d] 30 (0, 0) hg] at h1
  rcases Nat.eq_zero_or_pos off with h | h
  · subst h; simp at h1
  · rw [Array.getElem?_eq_none (by simp; omega)] at h1; cases h1
/-- what the loop of Of knows -/
def OfR (w : World) (l : List Int) (k : Nat) (wr : World) : Prop :=
  ∃ lk A c, Hid (els (ofL (l.take k)) 4096 = lk) ∧ RL wr A c lk ∧ Below w.heap.size w wr ∧ w.heap.size + 2 ≤ wr.heap.size ∧ Blk1 wr w.heap.size (.slice none 0 0) ∧ Blk1 wr (w.heap.size + 1) (.slice A lk.length c)

set_option maxRecDepth 100000 in
set_option maxHeartbeats 4000000 in
theorem ROf (A : Option Addr) (c : Nat) (l : List Int) (w : World) (hl : l.length ≤ 4611686018427387904) (hA : Ints w A l) :
    Calls Tryd.prog 11 #[.slice A l.length c] w (RPost (els (ofL l) 4096) w) := by
  have HA := Lib.hid hA
  clear hA
  go_enter Tryd.func11, Tryd.ntmps11
  go_upto_region 2 with fail
  refine gen_world (fun w1 => OfR w l 0 w1) ⟨[], none, 0, Lib.hid (els_zero _), RL.nil _, below2 w _ _, by simp, heap_alloc2_old w _ _, heap_alloc2_new w _ _⟩ ?_
  intro w1 hO
  go_wp2_with fail
  go_loopw [4] (fun i wr => ∃ k : Nat, k ≤ l.length ∧ i = .int .i64 k ∧ OfR w l k wr) (fun i _ => l.length - (intOf i).toNat)
  case atStart => exact ⟨0, by omega, rfl, hO⟩
  case round =>
    clear hO
    obtain ⟨k, hk, rfl, lk, A1, c1, HE, hR, hb, hz, b1, b2⟩ := hrel
    have x2 := b2.cell
    have f2 := b2.frozen
    by_cases hlt : k < l.length
    · have hlz : (k : Int) < (l.length : Int) := by omega
      obtain ⟨b, off, rfl, hbl, hcell⟩ := HA.out (by omega)
      have hck : wr.cell? ⟨b, off + k, none⟩ = some (.int .i64 (l.getD k 0)) := (hb.cell (p := ⟨b, off + k, none⟩) hbl).trans (hcell k hlt)
      have HST := Lib.hid (ofL_take l k hlt)
      clear hcell
      generalize hx : l.getD k 0 = x at *
      clear hx
      go_upto_region 5 with fail
      go_region_with (go_at_call 14; refine (RWith _ lk HE A1 c1 x wr.drew hR).mono ?_; rintro e w2 ⟨A2, c2, rfl, hR2, hb2⟩; have b2' : Blk1 w2 _ _ := (hb2.block _ (by simp; omega)).trans b2; have x2' := b2'.cell; have f2' := b2'.frozen)
      all_goals
        have b1' : Blk1 w2 _ _ := (hb2.block _ (by simp; omega)).trans b1
        have hb' : Below w.heap.size w w2 := Below.trans (b := wr.drew) ⟨hb.os, hb.tape, hb.output, hb.size, hb.block⟩ (hb2.mono hb.size)
        have hz' : w.heap.size + 2 ≤ w2.heap.size := by have := hb2.size; simp at this; omega
        have hn := hR2.ne b2'
        have HO : OfR w l (k + 1) (w2.setCell ⟨w.heap.size + 1, 0, none⟩ (.slice A2 (els (addI (ofL (l.take k)) x) 4096).length c2)) :=
          ⟨_, A2, c2, Lib.hid (by rw [HST.out]), hR2.setCell2 hn _, hb'.setCell (by simp) _, by simpa using hz', b1'.far (by simp) _, b2'.set_ _⟩
        clear hb' hz' hn b1' b2' x2' f2' hR2 hb2 hR hb hz b1 b2 x2 f2 hck
        generalize (els (addI (ofL (l.take k)) x) 4096).length = ln at *
        go_wp2
        go_roundw
        case rel => exact ⟨k + 1, by omega, by go_num, HO⟩
        case measure => simp [intOf]; omega
    · have hlz : ¬ (k : Int) < (l.length : Int) := by omega
      have HF := Lib.hid (show els (ofL l) 4096 = lk by have := HE.out; rwa [List.take_of_length_le (by omega)] at this)
      have hn := hR.ne b1
      have x1 := b1.cell
      have f1 := b1.frozen
      go_wp2
      refine ret30 rfl rfl rfl (b1.set_ _) ⟨A1, c1, by rw [HF.out], ?_, hb.setCell (by simp) _⟩
      rw [HF.out]
      exact hR.setCell2 hn _
end Go.Proofs.YtabdhmfjbielaaaDoor
