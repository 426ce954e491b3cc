/- PROVED here: the contracts of the document's own And, Minus, Within and Same over lists that rise; what they say of sets. No condition but those in each theorem's own head. -/
import Derived.Test.YtabdhmfjbielaaaDoorRo
namespace Go.Proofs.YtabdhmfjbielaaaDoor
open Go Go.RowKit

theorem inL_elsM (s M m : Nat) (hm : m < M) : inL (els s M) (m : Int) = s.testBit m := by
  unfold inL
  rw [Bool.eq_iff_iff, decide_eq_true_eq, els_mem]
  constructor
  · rintro ⟨j, e, _, hb⟩
    obtain rfl : m = j := by omega
    exact hb
  · intro hb; exact ⟨m, rfl, hm, hb⟩
theorem pt_els (s t M : Nat) (b : Bool) : pt (els t M) b (els s M) = ((List.range M).filter fun j => s.testBit j && (t.testBit j == b)).map Int.ofNat := by
  unfold pt
  have e : els s M = ((List.range M).filter s.testBit).map Int.ofNat := rfl
  rw [e, List.filter_map, List.filter_filter]
  congr 1
  refine List.filter_congr fun j hj => ?_
  have h2 : inL (els t M) (Int.ofNat j) = t.testBit j := inL_elsM t M j (by simpa using hj)
  simp only [Function.comp]
  rw [h2, Bool.and_comm]
theorem pt_andM (s t M : Nat) : pt (els t M) true (els s M) = els (s &&& t) M := by
  rw [pt_els]; unfold els; congr 1
  refine List.filter_congr fun j _ => ?_
  rw [Nat.testBit_and]; cases s.testBit j <;> cases t.testBit j <;> rfl
theorem pt_minusM (s t M : Nat) : pt (els t M) false (els s M) = els (minus s t) M := by
  rw [pt_els]; unfold els; congr 1
  refine List.filter_congr fun j _ => ?_
  rw [minus_bit]; cases s.testBit j <;> cases t.testBit j <;> rfl
theorem pt_and (s t : Nat) : pt (els t 4096) true (els s 4096) = els (s &&& t) 4096 := pt_andM s t 4096
theorem pt_minus (s t : Nat) : pt (els t 4096) false (els s 4096) = els (minus s t) 4096 := pt_minusM s t 4096
theorem els_len_zero (s : Nat) (hs : Small s) : (((els s 4096).length : Int) == 0) = decide (s = 0) := by
  rw [Bool.eq_iff_iff, decide_eq_true_eq]
  constructor
  · intro h
    have h0 : (els s 4096).length = 0 := by have : (((els s 4096).length : Nat) : Int) = 0 := by simpa using h
                                            omega
    rw [← cnt_els] at h0
    have := (cnt_zero_iff s).1 h0
    apply Nat.eq_of_testBit_eq; intro j
    rw [Nat.zero_testBit]
    by_cases hj : j < 4096
    · exact this j hj
    · exact hs j (by omega)
  · rintro rfl; rw [els_zero]; rfl
theorem minus_zero (s t : Nat) : decide (minus s t = 0) = withinB s t := by
  unfold withinB
  rw [Bool.eq_iff_iff, decide_eq_true_eq, decide_eq_true_eq]
  constructor
  · intro h
    apply Nat.eq_of_testBit_eq; intro j
    have := congrArg (·.testBit j) h
    simp only [minus_bit, Nat.zero_testBit] at this
    rw [Nat.testBit_or]; revert this; cases s.testBit j <;> cases t.testBit j <;> simp
  · intro h
    apply Nat.eq_of_testBit_eq; intro j
    have := congrArg (·.testBit j) h
    simp only [Nat.testBit_or] at this
    rw [minus_bit, Nat.zero_testBit]; revert this; cases s.testBit j <;> cases t.testBit j <;> simp
theorem within_both (s t : Nat) : (withinB s t && withinB t s) = sameB s t := by
  unfold withinB sameB
  rw [Bool.eq_iff_iff, Bool.and_eq_true, decide_eq_true_eq, decide_eq_true_eq, decide_eq_true_eq]
  constructor
  · rintro ⟨h1, h2⟩; rw [Nat.or_comm] at h2; exact h2.symm.trans h1
  · rintro rfl; simp

/-- the blocks of a call with two sets -/
theorem ROp (F : Nat) (bb : Bool) (hF : F = 27 ∧ bb = true ∨ F = 29 ∧ bb = false) (A : Option Addr) (c : Nat) (l : List Int) (B : Option Addr) (d : Nat) (m : List Int) (w : World) (hl : l.length ≤ 4096) (hI : Ints w A l) (hm : m.length ≤ 4096) (hM : Ints w B m) :
    Calls Tryd.prog F #[.agg #[.slice A l.length c], .agg #[.slice B m.length d]] w (RPost (pt m bb l) w) := by
  have HI := Lib.hid hI
  have HM := Lib.hid hM
  clear hI hM
  rcases hF with ⟨rfl, rfl⟩ | ⟨rfl, rfl⟩
  · go_enter Tryd.func27, Tryd.ntmps27
    go_upto_region 1 with fail
    refine gen_world (fun w1 => Below w.heap.size w w1 ∧ w.heap.size + 3 ≤ w1.heap.size ∧ Blk1 w1 w.heap.size (.slice A l.length c) ∧ Blk1 w1 (w.heap.size + 1) (.slice B m.length d) ∧ Blk1 w1 (w.heap.size + 1 + 1) (.slice none 0 0)) ⟨below3 w _ _ _, by simp, (heap3 w _ _ _).1, (heap3 w _ _ _).2.1, (heap3 w _ _ _).2.2⟩ ?_
    rintro w1 ⟨hb, hz, b1, b2, b3⟩
    have x1 := b1.cell
    have x2 := b2.cell
    go_wp2_with (go_at_call 44; refine (RPart A c l B d m true _ hl (HI.out.below hb) hm (HM.out.below hb)).mono ?_; rintro e w2 ⟨A2, c2, rfl, hR2, hb2⟩; have b3' : Blk1 w2 _ _ := (hb2.block _ (by omega)).trans b3; have x3 := b3'.cell; have f3 := b3'.frozen)
    exact ret30 rfl rfl rfl (b3'.set_ _) ⟨A2, c2, rfl, hR2.setCell2 (hR2.ne b3') _, (Below.trans hb (hb2.mono hb.size)).setCell (by show w.heap.size ≤ w.heap.size + 1 + 1; omega) _⟩
  · go_enter Tryd.func29, Tryd.ntmps29
    go_upto_region 1 with fail
    refine gen_world (fun w1 => Below w.heap.size w w1 ∧ w.heap.size + 3 ≤ w1.heap.size ∧ Blk1 w1 w.heap.size (.slice A l.length c) ∧ Blk1 w1 (w.heap.size + 1) (.slice B m.length d) ∧ Blk1 w1 (w.heap.size + 1 + 1) (.slice none 0 0)) ⟨below3 w _ _ _, by simp, (heap3 w _ _ _).1, (heap3 w _ _ _).2.1, (heap3 w _ _ _).2.2⟩ ?_
    rintro w1 ⟨hb, hz, b1, b2, b3⟩
    have x1 := b1.cell
    have x2 := b2.cell
    go_wp2_with (go_at_call 44; refine (RPart A c l B d m false _ hl (HI.out.below hb) hm (HM.out.below hb)).mono ?_; rintro e w2 ⟨A2, c2, rfl, hR2, hb2⟩; have b3' : Blk1 w2 _ _ := (hb2.block _ (by omega)).trans b3; have x3 := b3'.cell; have f3 := b3'.frozen)
    exact ret30 rfl rfl rfl (b3'.set_ _) ⟨A2, c2, rfl, hR2.setCell2 (hR2.ne b3') _, (Below.trans hb (hb2.mono hb.size)).setCell (by show w.heap.size ≤ w.heap.size + 1 + 1; omega) _⟩

theorem run_field30 (A : Option Addr) (n c : Nat) (w : World) : (Instr.field 30 (.agg #[.slice A n c]) 0).run Tryd.prog w = .ok (.slice A n c) w := by kernel_rfl
theorem rwithin_core (A : Option Addr) (c : Nat) (l : List Int) (B : Option Addr) (d : Nat) (m : List Int) (r : Bool) (w : World) (hl : l.length ≤ 4096) (hI : Ints w A l) (hm : m.length ≤ 4096) (hM : Ints w B m) (H : Hid ((((pt m false l).length : Int) == 0) = r)) :
    Calls Tryd.prog 33 #[.agg #[.slice A l.length c], .agg #[.slice B m.length d]] w fun e w' => e = .returned (.bool r) ∧ Below w.heap.size w w' := by
  have HI := Lib.hid hI
  have HM := Lib.hid hM
  clear hI hM
  go_enter Tryd.func33, Tryd.ntmps33
  go_upto_region 1 with fail
  refine gen_world (fun w1 => Below w.heap.size w w1 ∧ w.heap.size + 2 ≤ w1.heap.size ∧ Blk1 w1 w.heap.size (.slice A l.length c) ∧ Blk1 w1 (w.heap.size + 1) (.slice B m.length d)) ⟨below2 w _ _, by simp, heap_alloc2_old w _ _, heap_alloc2_new w _ _⟩ ?_
  rintro w1 ⟨hb, hz, b1, b2⟩
  have x1 := b1.cell
  have x2 := b2.cell
  have hfd := run_field30
  go_wp2_with (go_at_call 29; refine (ROp 29 false (.inr ⟨rfl, rfl⟩) A c l B d m _ hl (HI.out.below hb) hm (HM.out.below hb)).mono ?_; rintro e w2 ⟨A2, c2, rfl, hR2, hb2⟩)
  go_ret
  exact ⟨ret_bool H.out, Below.trans hb (hb2.mono hb.size)⟩
/-- the document's own sets, by the numbers of the program's -/
theorem RWithin (s t : Nat) (hs : Small s) (l m : List Int) (Hl : Hid (els s 4096 = l)) (Hm : Hid (els t 4096 = m)) (A B : Option Addr) (c d : Nat) (w : World) (hR : RL w A c l) (hM : RL w B d m) :
    Calls Tryd.prog 33 #[.agg #[.slice A l.length c], .agg #[.slice B m.length d]] w fun e w' => e = .returned (.bool (withinB s t)) ∧ Below w.heap.size w w' :=
  rwithin_core A c l B d m _ w (by rw [← Hl.out]; exact els_len s 4096) hR.1 (by rw [← Hm.out]; exact els_len t 4096) hM.1 (Lib.hid (by rw [← Hl.out, ← Hm.out, pt_minus, els_len_zero _ (small_minus hs), minus_zero]))
theorem RAnd (s t : Nat) (l m : List Int) (Hl : Hid (els s 4096 = l)) (Hm : Hid (els t 4096 = m)) (A B : Option Addr) (c d : Nat) (w : World) (hR : RL w A c l) (hM : RL w B d m) :
    Calls Tryd.prog 27 #[.agg #[.slice A l.length c], .agg #[.slice B m.length d]] w (RPost (els (s &&& t) 4096) w) := by
  have h := ROp 27 true (.inl ⟨rfl, rfl⟩) A c l B d m w (by rw [← Hl.out]; exact els_len s 4096) hR.1 (by rw [← Hm.out]; exact els_len t 4096) hM.1
  rwa [show pt m true l = els (s &&& t) 4096 by rw [← Hl.out, ← Hm.out, pt_and]] at h
theorem RMinus (s t : Nat) (l m : List Int) (Hl : Hid (els s 4096 = l)) (Hm : Hid (els t 4096 = m)) (A B : Option Addr) (c d : Nat) (w : World) (hR : RL w A c l) (hM : RL w B d m) :
    Calls Tryd.prog 29 #[.agg #[.slice A l.length c], .agg #[.slice B m.length d]] w (RPost (els (minus s t) 4096) w) := by
  have h := ROp 29 false (.inr ⟨rfl, rfl⟩) A c l B d m w (by rw [← Hl.out]; exact els_len s 4096) hR.1 (by rw [← Hm.out]; exact els_len t 4096) hM.1
  rwa [show pt m false l = els (minus s t) 4096 by rw [← Hl.out, ← Hm.out, pt_minus]] at h
theorem ROr2 (s t : Nat) (ht : Small t) (l m : List Int) (Hl : Hid (els s 4096 = l)) (Hm : Hid (els t 4096 = m)) (A B : Option Addr) (c d : Nat) (w : World) (hR : RL w A c l) (hM : RL w B d m) :
    Calls Tryd.prog 25 #[.agg #[.slice A l.length c], .agg #[.slice B m.length d]] w (RPost (els (s ||| t) 4096) w) := by
  have h := ROr s l Hl A c m B d w hR hM (by rw [← Hm.out]; exact els_len t 4096)
  rwa [show addL s m = s ||| t by rw [← Hm.out, addL_els s t ht]] at h
theorem RSame (s t : Nat) (hs : Small s) (ht : Small t) (l m : List Int) (Hl : Hid (els s 4096 = l)) (Hm : Hid (els t 4096 = m)) (A B : Option Addr) (c d : Nat) (w : World) (hR : RL w A c l) (hM : RL w B d m) :
    Calls Tryd.prog 31 #[.agg #[.slice A l.length c], .agg #[.slice B m.length d]] w fun e w' => e = .returned (.bool (sameB s t)) ∧ Below w.heap.size w w' := by
  have HI := Lib.hid hR
  have HM := Lib.hid hM
  have W1 := fun w h1 h2 => RWithin s t hs l m Hl Hm A B c d w h1 h2
  have W2 := fun w h1 h2 => RWithin t s ht m l Hm Hl B A d c w h1 h2
  have e := within_both s t
  clear hR hM
  cases h1 : withinB s t with
  | false =>
    rw [h1] at W1 e
    have E := Lib.hid e
    have V1 := Lib.hid W1
    clear e W1 W2 h1
    go_enter Tryd.func31, Tryd.ntmps31
    go_upto_region 1 with fail
    refine gen_world (fun w1 => Below w.heap.size w w1 ∧ w.heap.size + 2 ≤ w1.heap.size ∧ Blk1 w1 w.heap.size (.slice A l.length c) ∧ Blk1 w1 (w.heap.size + 1) (.slice B m.length d)) ⟨below2 w _ _, by simp, heap_alloc2_old w _ _, heap_alloc2_new w _ _⟩ ?_
    rintro w1 ⟨hb, hz, b1, b2⟩
    have x1 := b1.cell
    have x2 := b2.cell
    go_wp2_with (go_at_call 33; refine (V1.out _ (HI.out.below hb) (HM.out.below hb)).mono ?_; rintro e w2 ⟨rfl, hb2⟩)
    go_ret
    exact ⟨ret_bool (by rw [← E.out]; rfl), Below.trans hb (hb2.mono hb.size)⟩
  | true =>
    rw [h1, Bool.true_and] at e
    rw [h1] at W1
    rw [e] at W2
    have V1 := Lib.hid W1
    have V2 := Lib.hid W2
    clear e W1 W2 h1
    go_enter Tryd.func31, Tryd.ntmps31
    go_upto_region 1 with fail
    refine gen_world (fun w1 => Below w.heap.size w w1 ∧ w.heap.size + 2 ≤ w1.heap.size ∧ Blk1 w1 w.heap.size (.slice A l.length c) ∧ Blk1 w1 (w.heap.size + 1) (.slice B m.length d)) ⟨below2 w _ _, by simp, heap_alloc2_old w _ _, heap_alloc2_new w _ _⟩ ?_
    rintro w1 ⟨hb, hz, b1, b2⟩
    have x1 := b1.cell
    have x2 := b2.cell
    go_wp2_with (go_at_call 33; first
      | ((with_reducible refine (V1.out _ (HI.out.below hb) (HM.out.below hb)).mono ?_); rintro e w2 ⟨rfl, hb2⟩; have b1' : Blk1 w2 _ _ := (hb2.block _ (by omega)).trans b1; have b2' : Blk1 w2 _ _ := (hb2.block _ (by omega)).trans b2; have x1' := b1'.cell; have x2' := b2'.cell; have hb' := Below.trans hb (hb2.mono hb.size))
      | ((with_reducible refine (V2.out _ (HM.out.below hb') (HI.out.below hb')).mono ?_); rintro e w3 ⟨rfl, hb3⟩))
    go_ret
    exact ⟨rfl, Below.trans hb' (hb3.mono hb'.size)⟩
end Go.Proofs.YtabdhmfjbielaaaDoor
