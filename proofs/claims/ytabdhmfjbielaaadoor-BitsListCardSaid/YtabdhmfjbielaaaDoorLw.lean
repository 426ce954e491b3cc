/- PROVED here: the law BitsList returns true at any list and any number, where the library's tables are as its text lays them. No condition but those in each theorem's own head. -/
import Derived.Test.YtabdhmfjbielaaaDoorQq
namespace Go.Proofs.YtabdhmfjbielaaaDoor
open Go Go.RowKit

theorem cell_cl {w : World} {b off : Nat} {v : Value} (h : w.cell? ⟨b, off, none⟩ = some v) : ∀ w', Cl w w' → w'.cell? ⟨b, off, none⟩ = some v := fun _ hc => (Below.cell (B := w.heap.size) hc (p := ⟨b, off, none⟩) (World.block_lt_of_cell? w _ h)).trans h
section
variable {ops : Array Oper} {Q : Exit → Act → World → Prop} {S : World → Prop} {fuel : Nat} {listed : Array Bool} {a : Act} {w : World} {o : Oper}
theorem h_skip (i : Nat) (o : Oper) (hs : Region.noSelect ops = true) (hi : ops[i]? = some o) (hf : Region.free .any ops listed i = true) (hr : (Region.ready .any ops listed).contains i = true)
    (hQ : ∀ c a w, Q (.panic c) (a.put o.dst undef) w → Q (.panic c) a w) (hw : Region.wanted o (yielded ops a.tmps) = false) (hS : S w)
    (h : wpAnyH Tryd.prog .any ops Q S fuel (listed.setIfInBounds i true) (a.put o.dst undef) w) : wpAnyH Tryd.prog .any ops Q S (fuel + 1) listed a w :=
  wpAnyH_take hi hs hf hr hQ (.inr ⟨hw, rfl⟩) hS h
theorem y_pickF {c x y : Operand} {v : Value} (ho : o.op = .pick c x y) (hc : a.eval c = .bool false) (hy : a.eval y = v) : ∀ w, S w → (execOp a.eval o).run Tryd.prog w = .ok (.value v) w := fun w _ => by
  unfold execOp; simp [ho, hc, hy, asBool]
theorem y_geq {x y : Operand} {u v : Int} {b : Bool} (ho : o.op = .binOp .geq 3 x y 3) (hx : a.eval x = .int .i64 u) (hy : a.eval y = .int .i64 v) (hb : decide (v ≤ u) = b) : ∀ w, S w → (execOp a.eval o).run Tryd.prog w = .ok (.value (.bool b)) w :=
  y_bin ho hx hy (fun w => by simp [go_sem]) (fun w => by subst hb; simp [go_sem])
theorem y_lss {x y : Operand} {u v : Int} {b : Bool} (ho : o.op = .binOp .lss 3 x y 3) (hx : a.eval x = .int .i64 u) (hy : a.eval y = .int .i64 v) (hb : decide (u < v) = b) : ∀ w, S w → (execOp a.eval o).run Tryd.prog w = .ok (.value (.bool b)) w :=
  y_bin ho hx hy (fun w => by simp [go_sem]) (fun w => by subst hb; simp [go_sem])
theorem y_not {x : Operand} {u b : Bool} (ho : o.op = .unOp .not 4 x) (hx : a.eval x = .bool u) (hb : (!u) = b) : ∀ w, S w → (execOp a.eval o).run Tryd.prog w = .ok (.value (.bool b)) w := fun w _ => by
  unfold execOp
  have : (Op.unary .not (.bool u)).run Tryd.prog w = .ok (.bool b) w := by subst hb; simp [go_sem]
  simp only [ho, hx, Sem.run_bind, this, Sem.run_pure, Result.andThen_ok]
end
theorem list_call (s : Nat) (w : World) (hT : Tabs w) : Calls Tryd.prog 35 #[.agg (ofF (wd s))] w fun e w' => ∃ v, e = .returned v ∧ ∃ Ax cx, v = .slice Ax (els s 4096).length cx ∧ Ints w' Ax (els s 4096) ∧ Below w.heap.size w w' :=
  (List_ s w hT).mono fun _ _ ⟨v, he, hown, hb⟩ => by
    obtain ⟨A, c, hv, hI⟩ := own_slice hown
    exact ⟨v, he, A, c, hv, hI, hb⟩
theorem same_self (A B : Option Addr) (ca cb : Nat) (l : List Int) (w : World) (hl : l.length ≤ 4611686018427387904) (hA : Ints w A l) (hB : Ints w B l) :
    Calls Tryd.prog 36 #[.slice A l.length ca, .slice B l.length cb] w fun e w' => e = .returned (.bool true) ∧ Below w.heap.size w w' := by
  have := sameInts A B ca cb l l w hl hl hA hB
  rw [show eqL l l = true by simp [eqL]] at this
  exact this.mono fun _ _ ⟨he, n, hn⟩ => ⟨he, by rw [hn]; exact below_drewN (Below.refl _ _) n⟩

set_option maxRecDepth 100000 in
set_option maxHeartbeats 8000000 in
theorem bitsList_any (P1 : Option Addr) (c1 : Nat) (l1 : List Int) (n : Int) (w : World) (hT : Tabs w) (hi1 : Ints w P1 l1) :
    Calls Tryd.prog 6 #[.slice P1 l1.length c1, .int .i64 n] w fun e w' => e = .returned (.bool true) ∧ Below w.heap.size w w' := by
  have HT := Lib.hid (fun w' (hb : Below w.heap.size w w') => hT.below hb)
  have HI1 := Lib.hid hi1
  clear hT hi1
  by_cases hlen : l1.length ≤ 300
  · have hlz : (l1.length : Int) ≤ 300 := by omega
    go_enter Tryd.func6, Tryd.ntmps6
    go_upto_region 4 with (first
      | (go_at_call 9; refine (shown _ HT).mono ?_; rintro e w1 ⟨rfl, hb1⟩))
    go_upto_region 5 with (first
      | (go_at_call 10; refine (Of P1 c1 l1 _ (by omega) (HI1.out.below hb1)).mono ?_; rintro e w3 ⟨rfl, hb3⟩)
      | ((with_reducible apply alloc_store); (exact rfl); (exact rfl); intro w4 hb4 l6 b6; simp only [Act.put, List.setIfInBounds_toArray, List.set_cons_zero, List.set_cons_succ]))
    have hB4 : Below w.heap.size w w4 := bt hb1 (bt hb3 hb4)
    generalize w3.heap.size = g6 at *
    clear hb1 hb3 hb4
    have hA := small_ofL l1
    have HO := Lib.hid (fun i hi => has_ofL l1 i hi)
    generalize ofL l1 = A at *
    have hln := els_len A 4096
    have LC := Lib.hid (fun w h => list_call A w h)
    have NX := Lib.hid (fun w h => Next A 0 w h)
    have HL0 := Lib.hid (LI_start A)
    generalize nextF A 0 = y0 at *
    go_upto_region 6 with (first
      | ((with_reducible apply load_lit); (exact rfl); assumption)
      | (go_at_call 35; refine (LC.out _ (HT.out _ hB4)).mono ?_; rintro e w5 ⟨_, rfl, A7, c7, rfl, hI7, hb5⟩))
    have b6' := blk_below b6 l6 hb5
    have l6' := Nat.lt_of_lt_of_le l6 hb5.size
    have hB5 : Below w.heap.size w w5 := bt hB4 hb5
    have HI7 := Lib.hid hI7
    clear b6 l6 hb5 hB4 hI7
    go_upto_region 7 with (first
      | ((with_reducible apply load_lit); (exact rfl); assumption)
      | (go_at_call 19; refine (NX.out _ (HT.out _ hB5)).mono ?_; rintro e w6 ⟨rfl, hb6⟩))
    have b6 := blk_below b6' l6' hb6
    have l6 := Nat.lt_of_lt_of_le l6' hb6.size
    have hB6 : Below w.heap.size w w6 := bt hB5 hb6
    have HI7' := Lib.hid (HI7.out.below hb6)
    clear b6' l6' hb6 hB5 HI7 NX LC
    go_wp2_with fail
    go_loopw [8, 9] (fun x i wr => ∃ (k : Nat) (y : Int), k ≤ (els A 4096).length ∧ i = .int .i64 k ∧ x = .int .i64 y ∧ Hid (LI A k y) ∧ Below w.heap.size w wr ∧ Blk wr g6 (ofF (wd A)) ∧ g6 < wr.heap.size ∧ Hid (Ints wr A7 (els A 4096))) (fun _ i _ => (els A 4096).length - (intOf i).toNat)
    case atStart => exact ⟨0, y0, by omega, rfl, rfl, HL0, hB6, b6, l6, HI7'⟩
    case round =>
      clear hB6 b6 l6 HI7' HL0
      obtain ⟨i, y, hk, rfl, rfl, HLi, hBr, b6, l6, HI7⟩ := hrel
      by_cases hilt : i < (els A 4096).length
      · have hiz : (i : Int) < ((els A 4096).length : Int) := by omega
        obtain ⟨kk, e1, hkk, hbit, rfl, hprev, hLI⟩ := LI_step HLi.out hilt
        have HLI := Lib.hid hLI
        obtain ⟨b7, o7, rfl, hb7, hcells⟩ := HI7.out (by omega)
        have hck := hcells i hilt
        rw [e1] at hck
        have hh := fun w => Has A (kk : Int) w
        rw [show hasI A (kk : Int) = true by unfold hasI; rw [Int.toNat_natCast, hbit, decide_eq_true (by omega)]; rfl] at hh
        have HH := Lib.hid hh
        have HTc : Hid (∀ w', Cl wr w' → Tabs w') := fun w' hc => HT.out _ (bt hBr hc)
        clear hh hbit hLI e1 HLi
        by_cases hpos : 0 < i
        · have hcp := hcells (i - 1) (by omega)
          have hpv := hprev hpos
          generalize (els A 4096).getD (i - 1) 0 = pv at hcp hpv
          clear hcells hprev
          go_wp2_with fail
          refine q_region (by kernel_rfl) ?_
          refine q_load (g := g6) (f := wd A) rfl rfl (load_blk b6 l6) ?_
          simp only [Act.put, List.setIfInBounds_toArray, List.set_cons_zero, List.set_cons_succ]
          refine q_move (v := .slice (some ⟨b7, o7, none⟩) (els A 4096).length c7) rfl rfl ?_
          simp only [Act.put, List.setIfInBounds_toArray, List.set_cons_zero, List.set_cons_succ]
          refine q_move (v := .int .i64 (i : Int)) rfl rfl ?_
          simp only [Act.put, List.setIfInBounds_toArray, List.set_cons_zero, List.set_cons_succ]
          refine q_index (b := b7) (off := o7) (n := (els A 4096).length) (c := c7) (k := i) rfl rfl rfl hilt ?_
          simp only [Act.put, List.setIfInBounds_toArray, List.set_cons_zero, List.set_cons_succ]
          refine q_load3 (b := b7) (off := o7 + i) (n := (kk : Int)) rfl rfl (cell_cl hck) ?_
          simp only [Act.put, List.setIfInBounds_toArray, List.set_cons_zero, List.set_cons_succ]
          refine q_call own17 rfl (args := #[.agg (ofF (wd A)), .int .i64 (kk : Int)]) (v := .bool true) rfl (call_cl HH.out) ?_
          simp only [Act.put, List.setIfInBounds_toArray, List.set_cons_zero, List.set_cons_succ]
          refine q_not (u := true) (b := false) rfl rfl rfl ?_
          simp only [Act.put, List.setIfInBounds_toArray, List.set_cons_zero, List.set_cons_succ]
          refine q_move (v := .bool false) rfl rfl ?_
          simp only [Act.put, List.setIfInBounds_toArray, List.set_cons_zero, List.set_cons_succ]
          refine q_move (v := .slice (some ⟨b7, o7, none⟩) (els A 4096).length c7) rfl rfl ?_
          simp only [Act.put, List.setIfInBounds_toArray, List.set_cons_zero, List.set_cons_succ]
          refine q_move (v := .int .i64 (i : Int)) rfl rfl ?_
          simp only [Act.put, List.setIfInBounds_toArray, List.set_cons_zero, List.set_cons_succ]
          refine q_index (b := b7) (off := o7) (n := (els A 4096).length) (c := c7) (k := i) rfl rfl rfl hilt ?_
          simp only [Act.put, List.setIfInBounds_toArray, List.set_cons_zero, List.set_cons_succ]
          refine q_load3 (b := b7) (off := o7 + i) (n := (kk : Int)) rfl rfl (cell_cl hck) ?_
          simp only [Act.put, List.setIfInBounds_toArray, List.set_cons_zero, List.set_cons_succ]
          refine q_lss (u := (kk : Int)) (v := (0 : Int)) (b := false) rfl rfl rfl (by first | (simp; done) | (simp; omega)) ?_
          simp only [Act.put, List.setIfInBounds_toArray, List.set_cons_zero, List.set_cons_succ]
          refine q_pickF (v := .bool false) rfl rfl rfl ?_
          simp only [Act.put, List.setIfInBounds_toArray, List.set_cons_zero, List.set_cons_succ]
          refine q_move (v := .bool false) rfl rfl ?_
          simp only [Act.put, List.setIfInBounds_toArray, List.set_cons_zero, List.set_cons_succ]
          refine q_move (v := .slice (some ⟨b7, o7, none⟩) (els A 4096).length c7) rfl rfl ?_
          simp only [Act.put, List.setIfInBounds_toArray, List.set_cons_zero, List.set_cons_succ]
          refine q_move (v := .int .i64 (i : Int)) rfl rfl ?_
          simp only [Act.put, List.setIfInBounds_toArray, List.set_cons_zero, List.set_cons_succ]
          refine q_index (b := b7) (off := o7) (n := (els A 4096).length) (c := c7) (k := i) rfl rfl rfl hilt ?_
          simp only [Act.put, List.setIfInBounds_toArray, List.set_cons_zero, List.set_cons_succ]
          refine q_load3 (b := b7) (off := o7 + i) (n := (kk : Int)) rfl rfl (cell_cl hck) ?_
          simp only [Act.put, List.setIfInBounds_toArray, List.set_cons_zero, List.set_cons_succ]
          refine q_gtr (u := (kk : Int)) (v := (4095 : Int)) (b := false) rfl rfl rfl (by first | (simp; done) | (simp; omega)) ?_
          simp only [Act.put, List.setIfInBounds_toArray, List.set_cons_zero, List.set_cons_succ]
          refine q_pickF (v := .bool false) rfl rfl rfl ?_
          simp only [Act.put, List.setIfInBounds_toArray, List.set_cons_zero, List.set_cons_succ]
          refine q_move (v := .bool false) rfl rfl ?_
          simp only [Act.put, List.setIfInBounds_toArray, List.set_cons_zero, List.set_cons_succ]
          refine q_move (v := .int .i64 (i : Int)) rfl rfl ?_
          simp only [Act.put, List.setIfInBounds_toArray, List.set_cons_zero, List.set_cons_succ]
          refine q_gtr (u := (i : Int)) (v := (0 : Int)) (b := true) rfl rfl rfl (by first | (simp; done) | (simp; omega)) ?_
          simp only [Act.put, List.setIfInBounds_toArray, List.set_cons_zero, List.set_cons_succ]
          refine q_move (v := .bool true) rfl rfl ?_
          simp only [Act.put, List.setIfInBounds_toArray, List.set_cons_zero, List.set_cons_succ]
          refine q_move (v := .slice (some ⟨b7, o7, none⟩) (els A 4096).length c7) rfl rfl ?_
          simp only [Act.put, List.setIfInBounds_toArray, List.set_cons_zero, List.set_cons_succ]
          refine q_move (v := .int .i64 (i : Int)) rfl rfl ?_
          simp only [Act.put, List.setIfInBounds_toArray, List.set_cons_zero, List.set_cons_succ]
          refine q_index (b := b7) (off := o7) (n := (els A 4096).length) (c := c7) (k := i) rfl rfl rfl hilt ?_
          simp only [Act.put, List.setIfInBounds_toArray, List.set_cons_zero, List.set_cons_succ]
          refine q_load3 (b := b7) (off := o7 + i) (n := (kk : Int)) rfl rfl (cell_cl hck) ?_
          simp only [Act.put, List.setIfInBounds_toArray, List.set_cons_zero, List.set_cons_succ]
          refine q_move (v := .slice (some ⟨b7, o7, none⟩) (els A 4096).length c7) rfl rfl ?_
          simp only [Act.put, List.setIfInBounds_toArray, List.set_cons_zero, List.set_cons_succ]
          refine q_move (v := .int .i64 (i : Int)) rfl rfl ?_
          simp only [Act.put, List.setIfInBounds_toArray, List.set_cons_zero, List.set_cons_succ]
          refine q_subI (u := (i : Int)) (v := (1 : Int)) (r := ((i - 1 : Nat) : Int)) rfl rfl rfl (by rw [IntWalk.i64_in _ (by omega)]; omega) ?_
          simp only [Act.put, List.setIfInBounds_toArray, List.set_cons_zero, List.set_cons_succ]
          refine q_index (b := b7) (off := o7) (n := (els A 4096).length) (c := c7) (k := i - 1) rfl rfl rfl (by omega) ?_
          simp only [Act.put, List.setIfInBounds_toArray, List.set_cons_zero, List.set_cons_succ]
          refine q_load3 (b := b7) (off := o7 + (i - 1)) (n := pv) rfl rfl (cell_cl hcp) ?_
          simp only [Act.put, List.setIfInBounds_toArray, List.set_cons_zero, List.set_cons_succ]
          refine q_leq (u := (kk : Int)) (v := pv) (b := false) rfl rfl rfl (by first | (simp; done) | (simp; omega)) ?_
          simp only [Act.put, List.setIfInBounds_toArray, List.set_cons_zero, List.set_cons_succ]
          refine q_pick (v := .bool false) rfl rfl rfl ?_
          simp only [Act.put, List.setIfInBounds_toArray, List.set_cons_zero, List.set_cons_succ]
          refine q_pickF (v := .bool false) rfl rfl rfl ?_
          simp only [Act.put, List.setIfInBounds_toArray, List.set_cons_zero, List.set_cons_succ]
          refine q_move (v := .bool false) rfl rfl ?_
          simp only [Act.put, List.setIfInBounds_toArray, List.set_cons_zero, List.set_cons_succ]
          refine q_move (v := .int .i64 (kk : Int)) rfl rfl ?_
          simp only [Act.put, List.setIfInBounds_toArray, List.set_cons_zero, List.set_cons_succ]
          refine q_move (v := .slice (some ⟨b7, o7, none⟩) (els A 4096).length c7) rfl rfl ?_
          simp only [Act.put, List.setIfInBounds_toArray, List.set_cons_zero, List.set_cons_succ]
          refine q_move (v := .int .i64 (i : Int)) rfl rfl ?_
          simp only [Act.put, List.setIfInBounds_toArray, List.set_cons_zero, List.set_cons_succ]
          refine q_index (b := b7) (off := o7) (n := (els A 4096).length) (c := c7) (k := i) rfl rfl rfl hilt ?_
          simp only [Act.put, List.setIfInBounds_toArray, List.set_cons_zero, List.set_cons_succ]
          refine q_load3 (b := b7) (off := o7 + i) (n := (kk : Int)) rfl rfl (cell_cl hck) ?_
          simp only [Act.put, List.setIfInBounds_toArray, List.set_cons_zero, List.set_cons_succ]
          refine q_neq (u := (kk : Int)) (v := (kk : Int)) (b := false) rfl rfl rfl (by simp) ?_
          simp only [Act.put, List.setIfInBounds_toArray, List.set_cons_zero, List.set_cons_succ]
          refine q_pickF (v := .bool false) rfl rfl rfl ?_
          simp only [Act.put, List.setIfInBounds_toArray, List.set_cons_zero, List.set_cons_succ]
          refine wpQuiet_nil ?_
          intro w2 hc2
          have b6n := blk_below b6 l6 hc2
          have l6n := Nat.lt_of_lt_of_le l6 hc2.size
          have hckn := cell_cl hck _ hc2
          have HI7n := Lib.hid (HI7.out.below hc2)
          have hBn : Below w.heap.size w w2 := bt hBr hc2
          clear b6 l6 hck HI7 hBr HTc hc2
          have b6 := b6n
          have l6 := l6n
          have hck := hckn
          have HTc : Hid (∀ w', Cl w2 w' → Tabs w') := fun w' hc => HT.out _ (bt hBn hc)
          clear b6n l6n hckn
          go_wp2_with fail
          refine q_region (by kernel_rfl) ?_
          refine q_load (g := g6) (f := wd A) rfl rfl (load_blk b6 l6) ?_
          simp only [Act.put, List.setIfInBounds_toArray, List.set_cons_zero, List.set_cons_succ]
          refine q_move (v := .slice (some ⟨b7, o7, none⟩) (els A 4096).length c7) rfl rfl ?_
          simp only [Act.put, List.setIfInBounds_toArray, List.set_cons_zero, List.set_cons_succ]
          refine q_move (v := .int .i64 (i : Int)) rfl rfl ?_
          simp only [Act.put, List.setIfInBounds_toArray, List.set_cons_zero, List.set_cons_succ]
          refine q_index (b := b7) (off := o7) (n := (els A 4096).length) (c := c7) (k := i) rfl rfl rfl hilt ?_
          simp only [Act.put, List.setIfInBounds_toArray, List.set_cons_zero, List.set_cons_succ]
          refine q_load3 (b := b7) (off := o7 + i) (n := (kk : Int)) rfl rfl (cell_cl hck) ?_
          simp only [Act.put, List.setIfInBounds_toArray, List.set_cons_zero, List.set_cons_succ]
          refine q_addI (u := (kk : Int)) (v := (1 : Int)) (r := (kk : Int) + 1) rfl rfl rfl (IntWalk.i64_in _ (by omega)) ?_
          simp only [Act.put, List.setIfInBounds_toArray, List.set_cons_zero, List.set_cons_succ]
          refine q_call own19 rfl (args := #[.agg (ofF (wd A)), .int .i64 ((kk : Int) + 1)]) (v := .int .i64 (nextF A ((kk : Int) + 1))) rfl (call_clT HTc (Next A ((kk : Int) + 1))) ?_
          simp only [Act.put, List.setIfInBounds_toArray, List.set_cons_zero, List.set_cons_succ]
          refine q_assign (v := .int .i64 (nextF A ((kk : Int) + 1))) rfl rfl ?_
          simp only [Act.put, List.setIfInBounds_toArray, List.set_cons_zero, List.set_cons_succ]
          refine wpQuiet_nil ?_
          intro w3 hc3
          have b6n := blk_below b6 l6 hc3
          have l6n := Nat.lt_of_lt_of_le l6 hc3.size
          have HI7m := Lib.hid (HI7n.out.below hc3)
          have hBm : Below w.heap.size w w3 := bt hBn hc3
          clear b6 l6 hck HI7n hBn HTc hc3
          go_wp2
          go_roundw
          case rel => exact ⟨i + 1, _, by omega, by go_num, rfl, HLI, hBm, b6n, l6n, HI7m⟩
          case measure => simp [intOf]; omega

        · clear hcells hprev
          go_wp2_with fail
          refine q_region (by kernel_rfl) ?_
          refine q_load (g := g6) (f := wd A) rfl rfl (load_blk b6 l6) ?_
          simp only [Act.put, List.setIfInBounds_toArray, List.set_cons_zero, List.set_cons_succ]
          refine q_move (v := .slice (some ⟨b7, o7, none⟩) (els A 4096).length c7) rfl rfl ?_
          simp only [Act.put, List.setIfInBounds_toArray, List.set_cons_zero, List.set_cons_succ]
          refine q_move (v := .int .i64 (i : Int)) rfl rfl ?_
          simp only [Act.put, List.setIfInBounds_toArray, List.set_cons_zero, List.set_cons_succ]
          refine q_index (b := b7) (off := o7) (n := (els A 4096).length) (c := c7) (k := i) rfl rfl rfl hilt ?_
          simp only [Act.put, List.setIfInBounds_toArray, List.set_cons_zero, List.set_cons_succ]
          refine q_load3 (b := b7) (off := o7 + i) (n := (kk : Int)) rfl rfl (cell_cl hck) ?_
          simp only [Act.put, List.setIfInBounds_toArray, List.set_cons_zero, List.set_cons_succ]
          refine q_call own17 rfl (args := #[.agg (ofF (wd A)), .int .i64 (kk : Int)]) (v := .bool true) rfl (call_cl HH.out) ?_
          simp only [Act.put, List.setIfInBounds_toArray, List.set_cons_zero, List.set_cons_succ]
          refine q_not (u := true) (b := false) rfl rfl rfl ?_
          simp only [Act.put, List.setIfInBounds_toArray, List.set_cons_zero, List.set_cons_succ]
          refine q_move (v := .bool false) rfl rfl ?_
          simp only [Act.put, List.setIfInBounds_toArray, List.set_cons_zero, List.set_cons_succ]
          refine q_move (v := .slice (some ⟨b7, o7, none⟩) (els A 4096).length c7) rfl rfl ?_
          simp only [Act.put, List.setIfInBounds_toArray, List.set_cons_zero, List.set_cons_succ]
          refine q_move (v := .int .i64 (i : Int)) rfl rfl ?_
          simp only [Act.put, List.setIfInBounds_toArray, List.set_cons_zero, List.set_cons_succ]
          refine q_index (b := b7) (off := o7) (n := (els A 4096).length) (c := c7) (k := i) rfl rfl rfl hilt ?_
          simp only [Act.put, List.setIfInBounds_toArray, List.set_cons_zero, List.set_cons_succ]
          refine q_load3 (b := b7) (off := o7 + i) (n := (kk : Int)) rfl rfl (cell_cl hck) ?_
          simp only [Act.put, List.setIfInBounds_toArray, List.set_cons_zero, List.set_cons_succ]
          refine q_lss (u := (kk : Int)) (v := (0 : Int)) (b := false) rfl rfl rfl (by first | (simp; done) | (simp; omega)) ?_
          simp only [Act.put, List.setIfInBounds_toArray, List.set_cons_zero, List.set_cons_succ]
          refine q_pickF (v := .bool false) rfl rfl rfl ?_
          simp only [Act.put, List.setIfInBounds_toArray, List.set_cons_zero, List.set_cons_succ]
          refine q_move (v := .bool false) rfl rfl ?_
          simp only [Act.put, List.setIfInBounds_toArray, List.set_cons_zero, List.set_cons_succ]
          refine q_move (v := .slice (some ⟨b7, o7, none⟩) (els A 4096).length c7) rfl rfl ?_
          simp only [Act.put, List.setIfInBounds_toArray, List.set_cons_zero, List.set_cons_succ]
          refine q_move (v := .int .i64 (i : Int)) rfl rfl ?_
          simp only [Act.put, List.setIfInBounds_toArray, List.set_cons_zero, List.set_cons_succ]
          refine q_index (b := b7) (off := o7) (n := (els A 4096).length) (c := c7) (k := i) rfl rfl rfl hilt ?_
          simp only [Act.put, List.setIfInBounds_toArray, List.set_cons_zero, List.set_cons_succ]
          refine q_load3 (b := b7) (off := o7 + i) (n := (kk : Int)) rfl rfl (cell_cl hck) ?_
          simp only [Act.put, List.setIfInBounds_toArray, List.set_cons_zero, List.set_cons_succ]
          refine q_gtr (u := (kk : Int)) (v := (4095 : Int)) (b := false) rfl rfl rfl (by first | (simp; done) | (simp; omega)) ?_
          simp only [Act.put, List.setIfInBounds_toArray, List.set_cons_zero, List.set_cons_succ]
          refine q_pickF (v := .bool false) rfl rfl rfl ?_
          simp only [Act.put, List.setIfInBounds_toArray, List.set_cons_zero, List.set_cons_succ]
          refine q_move (v := .bool false) rfl rfl ?_
          simp only [Act.put, List.setIfInBounds_toArray, List.set_cons_zero, List.set_cons_succ]
          refine q_move (v := .int .i64 (i : Int)) rfl rfl ?_
          simp only [Act.put, List.setIfInBounds_toArray, List.set_cons_zero, List.set_cons_succ]
          refine q_gtr (u := (i : Int)) (v := (0 : Int)) (b := false) rfl rfl rfl (by first | (simp; done) | (simp; omega)) ?_
          simp only [Act.put, List.setIfInBounds_toArray, List.set_cons_zero, List.set_cons_succ]
          refine q_move (v := .bool false) rfl rfl ?_
          simp only [Act.put, List.setIfInBounds_toArray, List.set_cons_zero, List.set_cons_succ]
          go_big_quiet_skip
          go_big_quiet_skip
          go_big_quiet_skip
          go_big_quiet_skip
          go_big_quiet_skip
          go_big_quiet_skip
          go_big_quiet_skip
          go_big_quiet_skip
          go_big_quiet_skip
          go_big_quiet_skip
          refine q_pickF (v := .bool false) rfl rfl rfl ?_
          simp only [Act.put, List.setIfInBounds_toArray, List.set_cons_zero, List.set_cons_succ]
          refine q_pickF (v := .bool false) rfl rfl rfl ?_
          simp only [Act.put, List.setIfInBounds_toArray, List.set_cons_zero, List.set_cons_succ]
          refine q_move (v := .bool false) rfl rfl ?_
          simp only [Act.put, List.setIfInBounds_toArray, List.set_cons_zero, List.set_cons_succ]
          refine q_move (v := .int .i64 (kk : Int)) rfl rfl ?_
          simp only [Act.put, List.setIfInBounds_toArray, List.set_cons_zero, List.set_cons_succ]
          refine q_move (v := .slice (some ⟨b7, o7, none⟩) (els A 4096).length c7) rfl rfl ?_
          simp only [Act.put, List.setIfInBounds_toArray, List.set_cons_zero, List.set_cons_succ]
          refine q_move (v := .int .i64 (i : Int)) rfl rfl ?_
          simp only [Act.put, List.setIfInBounds_toArray, List.set_cons_zero, List.set_cons_succ]
          refine q_index (b := b7) (off := o7) (n := (els A 4096).length) (c := c7) (k := i) rfl rfl rfl hilt ?_
          simp only [Act.put, List.setIfInBounds_toArray, List.set_cons_zero, List.set_cons_succ]
          refine q_load3 (b := b7) (off := o7 + i) (n := (kk : Int)) rfl rfl (cell_cl hck) ?_
          simp only [Act.put, List.setIfInBounds_toArray, List.set_cons_zero, List.set_cons_succ]
          refine q_neq (u := (kk : Int)) (v := (kk : Int)) (b := false) rfl rfl rfl (by simp) ?_
          simp only [Act.put, List.setIfInBounds_toArray, List.set_cons_zero, List.set_cons_succ]
          refine q_pickF (v := .bool false) rfl rfl rfl ?_
          simp only [Act.put, List.setIfInBounds_toArray, List.set_cons_zero, List.set_cons_succ]
          refine wpQuiet_nil ?_
          intro w2 hc2
          have b6n := blk_below b6 l6 hc2
          have l6n := Nat.lt_of_lt_of_le l6 hc2.size
          have hckn := cell_cl hck _ hc2
          have HI7n := Lib.hid (HI7.out.below hc2)
          have hBn : Below w.heap.size w w2 := bt hBr hc2
          clear b6 l6 hck HI7 hBr HTc hc2
          have b6 := b6n
          have l6 := l6n
          have hck := hckn
          have HTc : Hid (∀ w', Cl w2 w' → Tabs w') := fun w' hc => HT.out _ (bt hBn hc)
          clear b6n l6n hckn
          go_wp2_with fail
          refine q_region (by kernel_rfl) ?_
          refine q_load (g := g6) (f := wd A) rfl rfl (load_blk b6 l6) ?_
          simp only [Act.put, List.setIfInBounds_toArray, List.set_cons_zero, List.set_cons_succ]
          refine q_move (v := .slice (some ⟨b7, o7, none⟩) (els A 4096).length c7) rfl rfl ?_
          simp only [Act.put, List.setIfInBounds_toArray, List.set_cons_zero, List.set_cons_succ]
          refine q_move (v := .int .i64 (i : Int)) rfl rfl ?_
          simp only [Act.put, List.setIfInBounds_toArray, List.set_cons_zero, List.set_cons_succ]
          refine q_index (b := b7) (off := o7) (n := (els A 4096).length) (c := c7) (k := i) rfl rfl rfl hilt ?_
          simp only [Act.put, List.setIfInBounds_toArray, List.set_cons_zero, List.set_cons_succ]
          refine q_load3 (b := b7) (off := o7 + i) (n := (kk : Int)) rfl rfl (cell_cl hck) ?_
          simp only [Act.put, List.setIfInBounds_toArray, List.set_cons_zero, List.set_cons_succ]
          refine q_addI (u := (kk : Int)) (v := (1 : Int)) (r := (kk : Int) + 1) rfl rfl rfl (IntWalk.i64_in _ (by omega)) ?_
          simp only [Act.put, List.setIfInBounds_toArray, List.set_cons_zero, List.set_cons_succ]
          refine q_call own19 rfl (args := #[.agg (ofF (wd A)), .int .i64 ((kk : Int) + 1)]) (v := .int .i64 (nextF A ((kk : Int) + 1))) rfl (call_clT HTc (Next A ((kk : Int) + 1))) ?_
          simp only [Act.put, List.setIfInBounds_toArray, List.set_cons_zero, List.set_cons_succ]
          refine q_assign (v := .int .i64 (nextF A ((kk : Int) + 1))) rfl rfl ?_
          simp only [Act.put, List.setIfInBounds_toArray, List.set_cons_zero, List.set_cons_succ]
          refine wpQuiet_nil ?_
          intro w3 hc3
          have b6n := blk_below b6 l6 hc3
          have l6n := Nat.lt_of_lt_of_le l6 hc3.size
          have HI7m := Lib.hid (HI7n.out.below hc3)
          have hBm : Below w.heap.size w w3 := bt hBn hc3
          clear b6 l6 hck HI7n hBn HTc hc3
          go_wp2
          go_roundw
          case rel => exact ⟨i + 1, _, by omega, by go_num, rfl, HLI, hBm, b6n, l6n, HI7m⟩
          case measure => simp [intOf]; omega

      · have hiz : ¬ (i : Int) < ((els A 4096).length : Int) := by omega
        obtain rfl : y = -1 := LI_end HLi.out (by omega)
        clear HLi
        go_wp2_with fail
        go_loopw [10] (fun i wr => ∃ k : Nat, k ≤ l1.length ∧ i = .int .i64 k ∧ Below w.heap.size w wr ∧ Blk wr g6 (ofF (wd A)) ∧ g6 < wr.heap.size ∧ Hid (Ints wr A7 (els A 4096))) (fun i _ => l1.length - (intOf i).toNat)
        case atStart => exact ⟨0, by omega, rfl, hBr, b6, l6, HI7⟩
        case round =>
          clear hBr b6 l6 HI7 hilt hiz hk
          obtain ⟨i, hk, rfl, hBr, b6, l6, HI7⟩ := hrel
          by_cases hilt : i < l1.length
          · have hiz : (i : Int) < (l1.length : Int) := by omega
            obtain ⟨b0, o0, rfl, hb0, hcells⟩ := HI1.out (by omega)
            have hck := (hBr.cell (p := ⟨b0, o0 + i, none⟩) hb0).trans (hcells i hilt)
            have ho := HO.out i hilt
            clear hcells
            generalize l1.getD i 0 = x at hck ho
            have hh := fun w => Has A x w
            by_cases hx0 : 0 ≤ x
            · by_cases hx1 : x < 4096
              · rw [ho, show decide (0 ≤ x ∧ x < 4096) = true by simp; omega] at hh
                have HH := Lib.hid hh
                clear hh ho
                go_wp2_with fail

                refine q_region (by kernel_rfl) ?_
                refine q_load (g := g6) (f := wd A) rfl rfl (load_blk b6 l6) ?_
                simp only [Act.put, List.setIfInBounds_toArray, List.set_cons_zero, List.set_cons_succ]
                refine q_move (v := .slice (some ⟨b0, o0, none⟩) l1.length c1) rfl rfl ?_
                simp only [Act.put, List.setIfInBounds_toArray, List.set_cons_zero, List.set_cons_succ]
                refine q_move (v := .int .i64 (i : Int)) rfl rfl ?_
                simp only [Act.put, List.setIfInBounds_toArray, List.set_cons_zero, List.set_cons_succ]
                refine q_index (b := b0) (off := o0) (n := l1.length) (c := c1) (k := i) rfl rfl rfl hilt ?_
                simp only [Act.put, List.setIfInBounds_toArray, List.set_cons_zero, List.set_cons_succ]
                refine q_load3 (b := b0) (off := o0 + i) (n := x) rfl rfl (cell_cl hck) ?_
                simp only [Act.put, List.setIfInBounds_toArray, List.set_cons_zero, List.set_cons_succ]
                refine q_call own17 rfl (args := #[.agg (ofF (wd A)), .int .i64 x]) (v := .bool true) rfl (call_cl HH.out) ?_
                simp only [Act.put, List.setIfInBounds_toArray, List.set_cons_zero, List.set_cons_succ]
                refine q_move (v := .slice (some ⟨b0, o0, none⟩) l1.length c1) rfl rfl ?_
                simp only [Act.put, List.setIfInBounds_toArray, List.set_cons_zero, List.set_cons_succ]
                refine q_move (v := .int .i64 (i : Int)) rfl rfl ?_
                simp only [Act.put, List.setIfInBounds_toArray, List.set_cons_zero, List.set_cons_succ]
                refine q_index (b := b0) (off := o0) (n := l1.length) (c := c1) (k := i) rfl rfl rfl hilt ?_
                simp only [Act.put, List.setIfInBounds_toArray, List.set_cons_zero, List.set_cons_succ]
                refine q_load3 (b := b0) (off := o0 + i) (n := x) rfl rfl (cell_cl hck) ?_
                simp only [Act.put, List.setIfInBounds_toArray, List.set_cons_zero, List.set_cons_succ]
                refine q_geq (u := x) (v := (0 : Int)) (b := true) rfl rfl rfl (by first | (simp; done) | (simp; omega)) ?_
                simp only [Act.put, List.setIfInBounds_toArray, List.set_cons_zero, List.set_cons_succ]
                refine q_move (v := .bool true) rfl rfl ?_
                simp only [Act.put, List.setIfInBounds_toArray, List.set_cons_zero, List.set_cons_succ]
                refine q_move (v := .slice (some ⟨b0, o0, none⟩) l1.length c1) rfl rfl ?_
                simp only [Act.put, List.setIfInBounds_toArray, List.set_cons_zero, List.set_cons_succ]
                refine q_move (v := .int .i64 (i : Int)) rfl rfl ?_
                simp only [Act.put, List.setIfInBounds_toArray, List.set_cons_zero, List.set_cons_succ]
                refine q_index (b := b0) (off := o0) (n := l1.length) (c := c1) (k := i) rfl rfl rfl hilt ?_
                simp only [Act.put, List.setIfInBounds_toArray, List.set_cons_zero, List.set_cons_succ]
                refine q_load3 (b := b0) (off := o0 + i) (n := x) rfl rfl (cell_cl hck) ?_
                simp only [Act.put, List.setIfInBounds_toArray, List.set_cons_zero, List.set_cons_succ]
                refine q_lss (u := x) (v := (4096 : Int)) (b := true) rfl rfl rfl (by first | (simp; done) | (simp; omega)) ?_
                simp only [Act.put, List.setIfInBounds_toArray, List.set_cons_zero, List.set_cons_succ]
                refine q_pick (v := .bool true) rfl rfl rfl ?_
                simp only [Act.put, List.setIfInBounds_toArray, List.set_cons_zero, List.set_cons_succ]
                refine q_neqB (u := true) (v := true) (b := false) rfl rfl rfl rfl ?_
                simp only [Act.put, List.setIfInBounds_toArray, List.set_cons_zero, List.set_cons_succ]
                refine wpQuiet_nil ?_
                intro w2 hc2
                have b6n := blk_below b6 l6 hc2
                have l6n := Nat.lt_of_lt_of_le l6 hc2.size
                have HI7n := Lib.hid (HI7.out.below hc2)
                have hBn : Below w.heap.size w w2 := bt hBr hc2
                clear b6 l6 hck HI7 hBr hc2
                go_wp2
                go_roundw
                case rel => exact ⟨i + 1, by omega, by go_num, hBn, b6n, l6n, HI7n⟩
                case measure => simp [intOf]; omega

              · rw [ho, show decide (0 ≤ x ∧ x < 4096) = false by simp; omega] at hh
                have HH := Lib.hid hh
                clear hh ho
                go_wp2_with fail

                refine q_region (by kernel_rfl) ?_
                refine q_load (g := g6) (f := wd A) rfl rfl (load_blk b6 l6) ?_
                simp only [Act.put, List.setIfInBounds_toArray, List.set_cons_zero, List.set_cons_succ]
                refine q_move (v := .slice (some ⟨b0, o0, none⟩) l1.length c1) rfl rfl ?_
                simp only [Act.put, List.setIfInBounds_toArray, List.set_cons_zero, List.set_cons_succ]
                refine q_move (v := .int .i64 (i : Int)) rfl rfl ?_
                simp only [Act.put, List.setIfInBounds_toArray, List.set_cons_zero, List.set_cons_succ]
                refine q_index (b := b0) (off := o0) (n := l1.length) (c := c1) (k := i) rfl rfl rfl hilt ?_
                simp only [Act.put, List.setIfInBounds_toArray, List.set_cons_zero, List.set_cons_succ]
                refine q_load3 (b := b0) (off := o0 + i) (n := x) rfl rfl (cell_cl hck) ?_
                simp only [Act.put, List.setIfInBounds_toArray, List.set_cons_zero, List.set_cons_succ]
                refine q_call own17 rfl (args := #[.agg (ofF (wd A)), .int .i64 x]) (v := .bool false) rfl (call_cl HH.out) ?_
                simp only [Act.put, List.setIfInBounds_toArray, List.set_cons_zero, List.set_cons_succ]
                refine q_move (v := .slice (some ⟨b0, o0, none⟩) l1.length c1) rfl rfl ?_
                simp only [Act.put, List.setIfInBounds_toArray, List.set_cons_zero, List.set_cons_succ]
                refine q_move (v := .int .i64 (i : Int)) rfl rfl ?_
                simp only [Act.put, List.setIfInBounds_toArray, List.set_cons_zero, List.set_cons_succ]
                refine q_index (b := b0) (off := o0) (n := l1.length) (c := c1) (k := i) rfl rfl rfl hilt ?_
                simp only [Act.put, List.setIfInBounds_toArray, List.set_cons_zero, List.set_cons_succ]
                refine q_load3 (b := b0) (off := o0 + i) (n := x) rfl rfl (cell_cl hck) ?_
                simp only [Act.put, List.setIfInBounds_toArray, List.set_cons_zero, List.set_cons_succ]
                refine q_geq (u := x) (v := (0 : Int)) (b := true) rfl rfl rfl (by first | (simp; done) | (simp; omega)) ?_
                simp only [Act.put, List.setIfInBounds_toArray, List.set_cons_zero, List.set_cons_succ]
                refine q_move (v := .bool true) rfl rfl ?_
                simp only [Act.put, List.setIfInBounds_toArray, List.set_cons_zero, List.set_cons_succ]
                refine q_move (v := .slice (some ⟨b0, o0, none⟩) l1.length c1) rfl rfl ?_
                simp only [Act.put, List.setIfInBounds_toArray, List.set_cons_zero, List.set_cons_succ]
                refine q_move (v := .int .i64 (i : Int)) rfl rfl ?_
                simp only [Act.put, List.setIfInBounds_toArray, List.set_cons_zero, List.set_cons_succ]
                refine q_index (b := b0) (off := o0) (n := l1.length) (c := c1) (k := i) rfl rfl rfl hilt ?_
                simp only [Act.put, List.setIfInBounds_toArray, List.set_cons_zero, List.set_cons_succ]
                refine q_load3 (b := b0) (off := o0 + i) (n := x) rfl rfl (cell_cl hck) ?_
                simp only [Act.put, List.setIfInBounds_toArray, List.set_cons_zero, List.set_cons_succ]
                refine q_lss (u := x) (v := (4096 : Int)) (b := false) rfl rfl rfl (by first | (simp; done) | (simp; omega)) ?_
                simp only [Act.put, List.setIfInBounds_toArray, List.set_cons_zero, List.set_cons_succ]
                refine q_pick (v := .bool false) rfl rfl rfl ?_
                simp only [Act.put, List.setIfInBounds_toArray, List.set_cons_zero, List.set_cons_succ]
                refine q_neqB (u := false) (v := false) (b := false) rfl rfl rfl rfl ?_
                simp only [Act.put, List.setIfInBounds_toArray, List.set_cons_zero, List.set_cons_succ]
                refine wpQuiet_nil ?_
                intro w2 hc2
                have b6n := blk_below b6 l6 hc2
                have l6n := Nat.lt_of_lt_of_le l6 hc2.size
                have HI7n := Lib.hid (HI7.out.below hc2)
                have hBn : Below w.heap.size w w2 := bt hBr hc2
                clear b6 l6 hck HI7 hBr hc2
                go_wp2
                go_roundw
                case rel => exact ⟨i + 1, by omega, by go_num, hBn, b6n, l6n, HI7n⟩
                case measure => simp [intOf]; omega

            · rw [ho, show decide (0 ≤ x ∧ x < 4096) = false by simp; omega] at hh
              have HH := Lib.hid hh
              clear hh ho
              go_wp2_with fail

              refine q_region (by kernel_rfl) ?_
              refine q_load (g := g6) (f := wd A) rfl rfl (load_blk b6 l6) ?_
              simp only [Act.put, List.setIfInBounds_toArray, List.set_cons_zero, List.set_cons_succ]
              refine q_move (v := .slice (some ⟨b0, o0, none⟩) l1.length c1) rfl rfl ?_
              simp only [Act.put, List.setIfInBounds_toArray, List.set_cons_zero, List.set_cons_succ]
              refine q_move (v := .int .i64 (i : Int)) rfl rfl ?_
              simp only [Act.put, List.setIfInBounds_toArray, List.set_cons_zero, List.set_cons_succ]
              refine q_index (b := b0) (off := o0) (n := l1.length) (c := c1) (k := i) rfl rfl rfl hilt ?_
              simp only [Act.put, List.setIfInBounds_toArray, List.set_cons_zero, List.set_cons_succ]
              refine q_load3 (b := b0) (off := o0 + i) (n := x) rfl rfl (cell_cl hck) ?_
              simp only [Act.put, List.setIfInBounds_toArray, List.set_cons_zero, List.set_cons_succ]
              refine q_call own17 rfl (args := #[.agg (ofF (wd A)), .int .i64 x]) (v := .bool false) rfl (call_cl HH.out) ?_
              simp only [Act.put, List.setIfInBounds_toArray, List.set_cons_zero, List.set_cons_succ]
              refine q_move (v := .slice (some ⟨b0, o0, none⟩) l1.length c1) rfl rfl ?_
              simp only [Act.put, List.setIfInBounds_toArray, List.set_cons_zero, List.set_cons_succ]
              refine q_move (v := .int .i64 (i : Int)) rfl rfl ?_
              simp only [Act.put, List.setIfInBounds_toArray, List.set_cons_zero, List.set_cons_succ]
              refine q_index (b := b0) (off := o0) (n := l1.length) (c := c1) (k := i) rfl rfl rfl hilt ?_
              simp only [Act.put, List.setIfInBounds_toArray, List.set_cons_zero, List.set_cons_succ]
              refine q_load3 (b := b0) (off := o0 + i) (n := x) rfl rfl (cell_cl hck) ?_
              simp only [Act.put, List.setIfInBounds_toArray, List.set_cons_zero, List.set_cons_succ]
              refine q_geq (u := x) (v := (0 : Int)) (b := false) rfl rfl rfl (by first | (simp; done) | (simp; omega)) ?_
              simp only [Act.put, List.setIfInBounds_toArray, List.set_cons_zero, List.set_cons_succ]
              refine q_move (v := .bool false) rfl rfl ?_
              simp only [Act.put, List.setIfInBounds_toArray, List.set_cons_zero, List.set_cons_succ]
              go_big_quiet_skip
              go_big_quiet_skip
              go_big_quiet_skip
              go_big_quiet_skip
              go_big_quiet_skip
              refine q_pickF (v := .bool false) rfl rfl rfl ?_
              simp only [Act.put, List.setIfInBounds_toArray, List.set_cons_zero, List.set_cons_succ]
              refine q_neqB (u := false) (v := false) (b := false) rfl rfl rfl rfl ?_
              simp only [Act.put, List.setIfInBounds_toArray, List.set_cons_zero, List.set_cons_succ]
              refine wpQuiet_nil ?_
              intro w2 hc2
              have b6n := blk_below b6 l6 hc2
              have l6n := Nat.lt_of_lt_of_le l6 hc2.size
              have HI7n := Lib.hid (HI7.out.below hc2)
              have hBn : Below w.heap.size w w2 := bt hBr hc2
              clear b6 l6 hck HI7 hBr hc2
              go_wp2
              go_roundw
              case rel => exact ⟨i + 1, by omega, by go_num, hBn, b6n, l6n, HI7n⟩
              case measure => simp [intOf]; omega

          · have hiz : ¬ (i : Int) < (l1.length : Int) := by omega
            clear HO HI1
            go_upto_region 19 with (first
              | ((with_reducible apply load_lit); (exact rfl); assumption)
              | (go_at_call 13; refine (With A n _).mono ?_; rintro e w7 ⟨rfl, hb7⟩)
              | ((with_reducible apply alloc_store); (exact rfl); (exact rfl); intro w8 hb8 l11 b11; simp only [Act.put, List.setIfInBounds_toArray, List.set_cons_zero, List.set_cons_succ]))
            have b6' := blk_below b6 l6 (bt hb7 hb8)
            have l6' := Nat.lt_of_lt_of_le l6 (bt hb7 hb8).size
            have hB8 : Below w.heap.size w w8 := bt hBr (bt hb7 hb8)
            have HI8 := Lib.hid (HI7.out.below (bt hb7 hb8))
            generalize w7.heap.size = g11 at *
            clear b6 l6 hb7 hb8 hBr HI7
            go_upto_region 20 with (first
              | ((with_reducible apply load_lit); (exact rfl); assumption)
              | (go_at_call 15; refine (Without A n _).mono ?_; rintro e w9 ⟨rfl, hb9⟩)
              | ((with_reducible apply alloc_store); (exact rfl); (exact rfl); intro w10 hb10 l12 b12; simp only [Act.put, List.setIfInBounds_toArray, List.set_cons_zero, List.set_cons_succ]))
            have b6 := blk_below b6' l6' (bt hb9 hb10)
            have l6 := Nat.lt_of_lt_of_le l6' (bt hb9 hb10).size
            have b11' := blk_below b11 l11 (bt hb9 hb10)
            have l11' := Nat.lt_of_lt_of_le l11 (bt hb9 hb10).size
            have hB20 : Below w.heap.size w w10 := bt hB8 (bt hb9 hb10)
            have hI7 := HI8.out.below (bt hb9 hb10)
            generalize w9.heap.size = g12 at *
            clear b6' l6' hb9 hb10 hB8 HI8 b11 l11
            have b11 := b11'
            have l11 := l11'
            clear b11' l11'
            have HTc : Hid (∀ w', Cl w10 w' → Tabs w') := fun w' hc => HT.out _ (bt hB20 hc)
            by_cases hn0 : 0 ≤ n
            · by_cases hn1 : n < 4096
              · skip

                have hhb := fun w => Has (addI A n) n w
                rw [has_add, show decide (0 ≤ n ∧ n < 4096) = true by simp; omega] at hhb
                have HHb := Lib.hid hhb
                have hhc := fun w => Has (delI A n) n w
                rw [has_del] at hhc
                have HHc := Lib.hid hhc
                clear hhb hhc
                refine h_region ?_
                intro hS0
                refine h_pure 0 ({ dst := some 117, op := Op.move (Operand.tmp 8), type := 3, pos := "law.go:107", after := #[], guard := none } : Oper) (.int .i64 (-1)) (by kernel_rfl) rfl (by kernel_rfl) (by kernel_rfl) (fun _ _ _ h => h) rfl (y_move rfl rfl) hS0 ?_
                simp only [Act.put, List.setIfInBounds_toArray, List.set_cons_zero, List.set_cons_succ]
                refine h_pure 1 ({ dst := some 118, op := Op.binOp BinOp.eql 3 (Operand.tmp 117) (Operand.const (Value.int IntKind.i64 (-1))) 3, type := 4, pos := "law.go:107", after := #[{ on := 0, ground := Ground.data }], guard := none } : Oper) (.bool true) (by kernel_rfl) rfl (by kernel_rfl) (by kernel_rfl) (fun _ _ _ h => h) rfl (y_eqlI (u := (-1)) (v := (-1)) (b := true) rfl rfl rfl (by rfl)) hS0 ?_
                simp only [Act.put, List.setIfInBounds_toArray, List.set_cons_zero, List.set_cons_succ]
                refine h_pure 2 ({ dst := some 119, op := Op.move (Operand.tmp 118), type := 4, pos := "law.go:107", after := #[{ on := 1, ground := Ground.data }], guard := none } : Oper) (.bool true) (by kernel_rfl) rfl (by kernel_rfl) (by kernel_rfl) (fun _ _ _ h => h) rfl (y_move rfl rfl) hS0 ?_
                simp only [Act.put, List.setIfInBounds_toArray, List.set_cons_zero, List.set_cons_succ]
                refine h_pure 3 ({ dst := some 120, op := Op.move (Operand.tmp 7), type := 22, pos := "law.go:107", after := #[{ on := 2, ground := Ground.guard }], guard := some (2, true) } : Oper) (.slice A7 (els A 4096).length c7) (by kernel_rfl) rfl (by kernel_rfl) (by kernel_rfl) (fun _ _ _ h => h) rfl (y_move rfl rfl) hS0 ?_
                simp only [Act.put, List.setIfInBounds_toArray, List.set_cons_zero, List.set_cons_succ]
                refine h_pure 4 ({ dst := some 121, op := Op.call { callee := Callee.builtin Builtin.len, args := #[Operand.tmp 120], argTypes := #[22] }, type := 3, pos := "law.go:107", after := #[{ on := 3, ground := Ground.data }, { on := 2, ground := Ground.guard }], guard := some (2, true) } : Oper) (.int .i64 ((els A 4096).length : Int)) (by kernel_rfl) rfl (by kernel_rfl) (by kernel_rfl) (fun _ _ _ h => h) rfl (y_len (A := A7) (n := (els A 4096).length) (c := c7) rfl rfl) hS0 ?_
                simp only [Act.put, List.setIfInBounds_toArray, List.set_cons_zero, List.set_cons_succ]
                refine h_pure 5 ({ dst := some 122, op := Op.load 27 (Operand.tmp 6), type := 27, pos := "law.go:107", after := #[{ on := 2, ground := Ground.guard }], guard := some (2, true) } : Oper) (.agg (ofF (wd A))) (by kernel_rfl) rfl (by kernel_rfl) (by kernel_rfl) (fun _ _ _ h => h) rfl (y_load (g := g6) (f := wd A) rfl rfl (load_blk b6 l6)) hS0 ?_
                simp only [Act.put, List.setIfInBounds_toArray, List.set_cons_zero, List.set_cons_succ]
                refine h_callv 6 ({ dst := some 123, op := Op.call { callee := Callee.value (Operand.func 34), args := #[Operand.tmp 122], argTypes := #[27] }, type := 3, pos := "law.go:107", after := #[{ on := 5, ground := Ground.data }, { on := 2, ground := Ground.chain }, { on := 2, ground := Ground.guard }], guard := some (2, true) } : Oper) (args := #[.agg (ofF (wd A))]) (v := .int .i64 (cntK A 64 : Int)) own34 rfl rfl (by kernel_rfl) rfl rfl hS0 (Count A _) ?_
                intro vw1 hb1 hS1
                simp only [Act.put, List.setIfInBounds_toArray, List.set_cons_zero, List.set_cons_succ]
                refine h_pure 7 ({ dst := some 124, op := Op.binOp BinOp.eql 3 (Operand.tmp 121) (Operand.tmp 123) 3, type := 4, pos := "law.go:107", after := #[{ on := 4, ground := Ground.data }, { on := 6, ground := Ground.data }, { on := 2, ground := Ground.guard }], guard := some (2, true) } : Oper) (.bool true) (by kernel_rfl) rfl (by kernel_rfl) (by kernel_rfl) (fun _ _ _ h => h) rfl (y_eqlI (u := ((els A 4096).length : Int)) (v := (cntK A 64 : Int)) (b := true) rfl rfl rfl (by rw [beq_iff_eq, cnt_els])) hS1 ?_
                simp only [Act.put, List.setIfInBounds_toArray, List.set_cons_zero, List.set_cons_succ]
                refine h_pure 8 ({ dst := some 125, op := Op.pick (Operand.tmp 119) (Operand.tmp 124) (Operand.const (Value.bool false)), type := 4, pos := "law.go:107", after := #[{ on := 2, ground := Ground.data }, { on := 7, ground := Ground.data }], guard := none } : Oper) (.bool true) (by kernel_rfl) rfl (by kernel_rfl) (by kernel_rfl) (fun _ _ _ h => h) rfl (y_pick rfl rfl rfl) hS1 ?_
                simp only [Act.put, List.setIfInBounds_toArray, List.set_cons_zero, List.set_cons_succ]
                refine h_pure 9 ({ dst := some 126, op := Op.move (Operand.tmp 125), type := 4, pos := "law.go:107", after := #[{ on := 8, ground := Ground.data }, { on := 6, ground := Ground.chain }], guard := none } : Oper) (.bool true) (by kernel_rfl) rfl (by kernel_rfl) (by kernel_rfl) (fun _ _ _ h => h) rfl (y_move rfl rfl) hS1 ?_
                simp only [Act.put, List.setIfInBounds_toArray, List.set_cons_zero, List.set_cons_succ]
                refine h_pure 10 ({ dst := some 127, op := Op.move (Operand.tmp 7), type := 22, pos := "law.go:107", after := #[{ on := 9, ground := Ground.guard }], guard := some (9, true) } : Oper) (.slice A7 (els A 4096).length c7) (by kernel_rfl) rfl (by kernel_rfl) (by kernel_rfl) (fun _ _ _ h => h) rfl (y_move rfl rfl) hS1 ?_
                simp only [Act.put, List.setIfInBounds_toArray, List.set_cons_zero, List.set_cons_succ]
                refine h_pure 12 ({ dst := some 129, op := Op.load 27 (Operand.tmp 6), type := 27, pos := "law.go:107", after := #[{ on := 9, ground := Ground.guard }], guard := some (9, true) } : Oper) (.agg (ofF (wd A))) (by kernel_rfl) rfl (by kernel_rfl) (by kernel_rfl) (fun _ _ _ h => h) rfl (y_load (g := g6) (f := wd A) rfl rfl (load_blk b6 l6)) hS1 ?_
                simp only [Act.put, List.setIfInBounds_toArray, List.set_cons_zero, List.set_cons_succ]
                refine h_callv 11 ({ dst := some 128, op := Op.call { callee := Callee.value (Operand.func 10), args := #[Operand.tmp 127], argTypes := #[22] }, type := 27, pos := "law.go:107", after := #[{ on := 10, ground := Ground.data }, { on := 9, ground := Ground.chain }, { on := 9, ground := Ground.guard }], guard := some (9, true) } : Oper) (args := #[.slice A7 (els A 4096).length c7]) (v := .agg (ofF (wd (ofL (els A 4096))))) own10 rfl rfl (by kernel_rfl) rfl rfl hS1 (Of A7 c7 (els A 4096) _ (by have := els_len A 4096; omega) (hI7.below hS1)) ?_
                intro vw2 hb2 hS2
                simp only [Act.put, List.setIfInBounds_toArray, List.set_cons_zero, List.set_cons_succ]
                refine h_callv 13 ({ dst := some 130, op := Op.call { callee := Callee.value (Operand.func 30), args := #[Operand.tmp 128, Operand.tmp 129], argTypes := #[27, 27] }, type := 4, pos := "law.go:107", after := #[{ on := 11, ground := Ground.data }, { on := 12, ground := Ground.data }, { on := 11, ground := Ground.chain }, { on := 9, ground := Ground.guard }], guard := some (9, true) } : Oper) (args := #[.agg (ofF (wd (ofL (els A 4096)))), .agg (ofF (wd A))]) (v := .bool true) own30 rfl rfl (by kernel_rfl) rfl rfl hS2 (same_true (small_ofL (els A 4096)) hA (ofL_els hA) _) ?_
                intro vw3 hb3 hS3
                simp only [Act.put, List.setIfInBounds_toArray, List.set_cons_zero, List.set_cons_succ]
                refine h_pure 14 ({ dst := some 131, op := Op.pick (Operand.tmp 126) (Operand.tmp 130) (Operand.const (Value.bool false)), type := 4, pos := "law.go:107", after := #[{ on := 9, ground := Ground.data }, { on := 13, ground := Ground.data }], guard := none } : Oper) (.bool true) (by kernel_rfl) rfl (by kernel_rfl) (by kernel_rfl) (fun _ _ _ h => h) rfl (y_pick rfl rfl rfl) hS3 ?_
                simp only [Act.put, List.setIfInBounds_toArray, List.set_cons_zero, List.set_cons_succ]
                refine h_pure 15 ({ dst := some 132, op := Op.move (Operand.tmp 131), type := 4, pos := "law.go:107", after := #[{ on := 14, ground := Ground.data }, { on := 13, ground := Ground.chain }], guard := none } : Oper) (.bool true) (by kernel_rfl) rfl (by kernel_rfl) (by kernel_rfl) (fun _ _ _ h => h) rfl (y_move rfl rfl) hS3 ?_
                simp only [Act.put, List.setIfInBounds_toArray, List.set_cons_zero, List.set_cons_succ]
                refine h_pure 16 ({ dst := some 133, op := Op.load 27 (Operand.tmp 6), type := 27, pos := "law.go:107", after := #[{ on := 15, ground := Ground.guard }], guard := some (15, true) } : Oper) (.agg (ofF (wd A))) (by kernel_rfl) rfl (by kernel_rfl) (by kernel_rfl) (fun _ _ _ h => h) rfl (y_load (g := g6) (f := wd A) rfl rfl (load_blk b6 l6)) hS3 ?_
                simp only [Act.put, List.setIfInBounds_toArray, List.set_cons_zero, List.set_cons_succ]
                refine h_pure 18 ({ dst := some 135, op := Op.move (Operand.tmp 7), type := 22, pos := "law.go:107", after := #[{ on := 15, ground := Ground.guard }], guard := some (15, true) } : Oper) (.slice A7 (els A 4096).length c7) (by kernel_rfl) rfl (by kernel_rfl) (by kernel_rfl) (fun _ _ _ h => h) rfl (y_move rfl rfl) hS3 ?_
                simp only [Act.put, List.setIfInBounds_toArray, List.set_cons_zero, List.set_cons_succ]
                refine h_call 17 ({ dst := some 134, op := Op.call { callee := Callee.value (Operand.func 35), args := #[Operand.tmp 133], argTypes := #[27] }, type := 22, pos := "law.go:107", after := #[{ on := 16, ground := Ground.data }, { on := 15, ground := Ground.chain }, { on := 15, ground := Ground.guard }], guard := some (15, true) } : Oper) (args := #[.agg (ofF (wd A))]) (fun v w1 => ∃ Ax cx, v = .slice Ax (els A 4096).length cx ∧ Ints w1 Ax (els A 4096) ∧ Below vw3.heap.size vw3 w1) own35 rfl rfl (by kernel_rfl) rfl rfl (list_call A _ (HTc.out _ hS3)) ?_
                rintro _ vw4 ⟨AX, cX, rfl, hIX, hb4⟩
                have hS4 := hS3.trans hb4
                refine ⟨hS4, ?_⟩
                simp only [Act.put, List.setIfInBounds_toArray, List.set_cons_zero, List.set_cons_succ]
                refine h_callv 19 ({ dst := some 136, op := Op.call { callee := Callee.value (Operand.func 36), args := #[Operand.tmp 134, Operand.tmp 135], argTypes := #[22, 22] }, type := 4, pos := "law.go:107", after := #[{ on := 17, ground := Ground.data }, { on := 18, ground := Ground.data }, { on := 17, ground := Ground.chain }, { on := 15, ground := Ground.guard }], guard := some (15, true) } : Oper) (args := #[.slice AX (els A 4096).length cX, .slice A7 (els A 4096).length c7]) (v := .bool true) own36 rfl rfl (by kernel_rfl) rfl rfl hS4 (same_self AX A7 cX c7 (els A 4096) _ (by have := els_len A 4096; omega) hIX (hI7.below hS4)) ?_
                intro vw5 hb5 hS5
                simp only [Act.put, List.setIfInBounds_toArray, List.set_cons_zero, List.set_cons_succ]
                refine h_pure 20 ({ dst := some 137, op := Op.pick (Operand.tmp 132) (Operand.tmp 136) (Operand.const (Value.bool false)), type := 4, pos := "law.go:107", after := #[{ on := 15, ground := Ground.data }, { on := 19, ground := Ground.data }], guard := none } : Oper) (.bool true) (by kernel_rfl) rfl (by kernel_rfl) (by kernel_rfl) (fun _ _ _ h => h) rfl (y_pick rfl rfl rfl) hS5 ?_
                simp only [Act.put, List.setIfInBounds_toArray, List.set_cons_zero, List.set_cons_succ]
                refine h_pure 21 ({ dst := some 138, op := Op.move (Operand.tmp 137), type := 4, pos := "law.go:107", after := #[{ on := 20, ground := Ground.data }, { on := 19, ground := Ground.chain }], guard := none } : Oper) (.bool true) (by kernel_rfl) rfl (by kernel_rfl) (by kernel_rfl) (fun _ _ _ h => h) rfl (y_move rfl rfl) hS5 ?_
                simp only [Act.put, List.setIfInBounds_toArray, List.set_cons_zero, List.set_cons_succ]
                refine h_pure 22 ({ dst := some 139, op := Op.load 27 (Operand.tmp 11), type := 27, pos := "law.go:107", after := #[{ on := 21, ground := Ground.guard }], guard := some (21, true) } : Oper) (.agg (ofF (wd (addI A n)))) (by kernel_rfl) rfl (by kernel_rfl) (by kernel_rfl) (fun _ _ _ h => h) rfl (y_load (g := g11) (f := wd (addI A n)) rfl rfl (load_blk b11 l11)) hS5 ?_
                simp only [Act.put, List.setIfInBounds_toArray, List.set_cons_zero, List.set_cons_succ]
                refine h_pure 23 ({ dst := some 140, op := Op.move (Operand.tmp 1), type := 3, pos := "law.go:107", after := #[{ on := 21, ground := Ground.guard }], guard := some (21, true) } : Oper) (.int .i64 n) (by kernel_rfl) rfl (by kernel_rfl) (by kernel_rfl) (fun _ _ _ h => h) rfl (y_move rfl rfl) hS5 ?_
                simp only [Act.put, List.setIfInBounds_toArray, List.set_cons_zero, List.set_cons_succ]
                refine h_pure 25 ({ dst := some 142, op := Op.move (Operand.tmp 1), type := 3, pos := "law.go:107", after := #[{ on := 21, ground := Ground.guard }], guard := some (21, true) } : Oper) (.int .i64 n) (by kernel_rfl) rfl (by kernel_rfl) (by kernel_rfl) (fun _ _ _ h => h) rfl (y_move rfl rfl) hS5 ?_
                simp only [Act.put, List.setIfInBounds_toArray, List.set_cons_zero, List.set_cons_succ]
                refine h_pure 26 ({ dst := some 143, op := Op.binOp BinOp.geq 3 (Operand.tmp 142) (Operand.const (Value.int IntKind.i64 0)) 3, type := 4, pos := "law.go:107", after := #[{ on := 25, ground := Ground.data }, { on := 21, ground := Ground.guard }], guard := some (21, true) } : Oper) (.bool true) (by kernel_rfl) rfl (by kernel_rfl) (by kernel_rfl) (fun _ _ _ h => h) rfl (y_geq (u := n) (v := (0 : Int)) (b := true) rfl rfl rfl (by first | (simp; done) | (simp; omega))) hS5 ?_
                simp only [Act.put, List.setIfInBounds_toArray, List.set_cons_zero, List.set_cons_succ]
                refine h_callv 24 ({ dst := some 141, op := Op.call { callee := Callee.value (Operand.func 17), args := #[Operand.tmp 139, Operand.tmp 140], argTypes := #[27, 3] }, type := 4, pos := "law.go:107", after := #[{ on := 22, ground := Ground.data }, { on := 23, ground := Ground.data }, { on := 21, ground := Ground.chain }, { on := 21, ground := Ground.guard }], guard := some (21, true) } : Oper) (args := #[.agg (ofF (wd (addI A n))), .int .i64 n]) (v := .bool true) own17 rfl rfl (by kernel_rfl) rfl rfl hS5 (HHb.out _) ?_
                intro vw6 hb6 hS6
                simp only [Act.put, List.setIfInBounds_toArray, List.set_cons_zero, List.set_cons_succ]
                refine h_pure 27 ({ dst := some 144, op := Op.move (Operand.tmp 143), type := 4, pos := "law.go:107", after := #[{ on := 26, ground := Ground.data }, { on := 24, ground := Ground.chain }, { on := 21, ground := Ground.guard }], guard := some (21, true) } : Oper) (.bool true) (by kernel_rfl) rfl (by kernel_rfl) (by kernel_rfl) (fun _ _ _ h => h) rfl (y_move rfl rfl) hS6 ?_
                simp only [Act.put, List.setIfInBounds_toArray, List.set_cons_zero, List.set_cons_succ]
                refine h_pure 28 ({ dst := some 145, op := Op.move (Operand.tmp 1), type := 3, pos := "law.go:107", after := #[{ on := 27, ground := Ground.guard }], guard := some (27, true) } : Oper) (.int .i64 n) (by kernel_rfl) rfl (by kernel_rfl) (by kernel_rfl) (fun _ _ _ h => h) rfl (y_move rfl rfl) hS6 ?_
                simp only [Act.put, List.setIfInBounds_toArray, List.set_cons_zero, List.set_cons_succ]
                refine h_pure 29 ({ dst := some 146, op := Op.binOp BinOp.lss 3 (Operand.tmp 145) (Operand.const (Value.int IntKind.i64 4096)) 3, type := 4, pos := "law.go:107", after := #[{ on := 28, ground := Ground.data }, { on := 27, ground := Ground.guard }], guard := some (27, true) } : Oper) (.bool true) (by kernel_rfl) rfl (by kernel_rfl) (by kernel_rfl) (fun _ _ _ h => h) rfl (y_lss (u := n) (v := (4096 : Int)) (b := true) rfl rfl rfl (by first | (simp; done) | (simp; omega))) hS6 ?_
                simp only [Act.put, List.setIfInBounds_toArray, List.set_cons_zero, List.set_cons_succ]
                refine h_pure 30 ({ dst := some 147, op := Op.pick (Operand.tmp 144) (Operand.tmp 146) (Operand.const (Value.bool false)), type := 4, pos := "law.go:107", after := #[{ on := 27, ground := Ground.data }, { on := 29, ground := Ground.data }, { on := 21, ground := Ground.guard }], guard := some (21, true) } : Oper) (.bool true) (by kernel_rfl) rfl (by kernel_rfl) (by kernel_rfl) (fun _ _ _ h => h) rfl (y_pick rfl rfl rfl) hS6 ?_
                simp only [Act.put, List.setIfInBounds_toArray, List.set_cons_zero, List.set_cons_succ]
                refine h_pure 31 ({ dst := some 148, op := Op.binOp BinOp.eql 4 (Operand.tmp 141) (Operand.tmp 147) 4, type := 4, pos := "law.go:107", after := #[{ on := 24, ground := Ground.data }, { on := 30, ground := Ground.data }, { on := 21, ground := Ground.guard }], guard := some (21, true) } : Oper) (.bool true) (by kernel_rfl) rfl (by kernel_rfl) (by kernel_rfl) (fun _ _ _ h => h) rfl (y_eqlB (u := true) (v := true) (b := true) rfl rfl rfl (rfl)) hS6 ?_
                simp only [Act.put, List.setIfInBounds_toArray, List.set_cons_zero, List.set_cons_succ]
                refine h_pure 32 ({ dst := some 149, op := Op.pick (Operand.tmp 138) (Operand.tmp 148) (Operand.const (Value.bool false)), type := 4, pos := "law.go:107", after := #[{ on := 21, ground := Ground.data }, { on := 31, ground := Ground.data }], guard := none } : Oper) (.bool true) (by kernel_rfl) rfl (by kernel_rfl) (by kernel_rfl) (fun _ _ _ h => h) rfl (y_pick rfl rfl rfl) hS6 ?_
                simp only [Act.put, List.setIfInBounds_toArray, List.set_cons_zero, List.set_cons_succ]
                refine h_pure 33 ({ dst := some 150, op := Op.move (Operand.tmp 149), type := 4, pos := "law.go:107", after := #[{ on := 32, ground := Ground.data }, { on := 27, ground := Ground.chain }], guard := none } : Oper) (.bool true) (by kernel_rfl) rfl (by kernel_rfl) (by kernel_rfl) (fun _ _ _ h => h) rfl (y_move rfl rfl) hS6 ?_
                simp only [Act.put, List.setIfInBounds_toArray, List.set_cons_zero, List.set_cons_succ]
                refine h_pure 34 ({ dst := some 151, op := Op.load 27 (Operand.tmp 12), type := 27, pos := "law.go:107", after := #[{ on := 33, ground := Ground.guard }], guard := some (33, true) } : Oper) (.agg (ofF (wd (delI A n)))) (by kernel_rfl) rfl (by kernel_rfl) (by kernel_rfl) (fun _ _ _ h => h) rfl (y_load (g := g12) (f := wd (delI A n)) rfl rfl (load_blk b12 l12)) hS6 ?_
                simp only [Act.put, List.setIfInBounds_toArray, List.set_cons_zero, List.set_cons_succ]
                refine h_pure 35 ({ dst := some 152, op := Op.move (Operand.tmp 1), type := 3, pos := "law.go:107", after := #[{ on := 33, ground := Ground.guard }], guard := some (33, true) } : Oper) (.int .i64 n) (by kernel_rfl) rfl (by kernel_rfl) (by kernel_rfl) (fun _ _ _ h => h) rfl (y_move rfl rfl) hS6 ?_
                simp only [Act.put, List.setIfInBounds_toArray, List.set_cons_zero, List.set_cons_succ]
                refine h_callv 36 ({ dst := some 153, op := Op.call { callee := Callee.value (Operand.func 17), args := #[Operand.tmp 151, Operand.tmp 152], argTypes := #[27, 3] }, type := 4, pos := "law.go:107", after := #[{ on := 34, ground := Ground.data }, { on := 35, ground := Ground.data }, { on := 33, ground := Ground.chain }, { on := 33, ground := Ground.guard }], guard := some (33, true) } : Oper) (args := #[.agg (ofF (wd (delI A n))), .int .i64 n]) (v := .bool false) own17 rfl rfl (by kernel_rfl) rfl rfl hS6 (HHc.out _) ?_
                intro vw7 hb7 hS7
                simp only [Act.put, List.setIfInBounds_toArray, List.set_cons_zero, List.set_cons_succ]
                refine h_pure 37 ({ dst := some 154, op := Op.unOp UnOp.not 4 (Operand.tmp 153), type := 4, pos := "law.go:107", after := #[{ on := 36, ground := Ground.data }, { on := 33, ground := Ground.guard }], guard := some (33, true) } : Oper) (.bool true) (by kernel_rfl) rfl (by kernel_rfl) (by kernel_rfl) (fun _ _ _ h => h) rfl (y_not (u := false) (b := true) rfl rfl rfl) hS7 ?_
                simp only [Act.put, List.setIfInBounds_toArray, List.set_cons_zero, List.set_cons_succ]
                refine h_pure 38 ({ dst := some 155, op := Op.pick (Operand.tmp 150) (Operand.tmp 154) (Operand.const (Value.bool false)), type := 4, pos := "law.go:107", after := #[{ on := 33, ground := Ground.data }, { on := 37, ground := Ground.data }], guard := none } : Oper) (.bool true) (by kernel_rfl) rfl (by kernel_rfl) (by kernel_rfl) (fun _ _ _ h => h) rfl (y_pick rfl rfl rfl) hS7 ?_
                simp only [Act.put, List.setIfInBounds_toArray, List.set_cons_zero, List.set_cons_succ]
                refine h_pure 39 ({ dst := some 156, op := Op.move (Operand.tmp 155), type := 4, pos := "law.go:107", after := #[{ on := 38, ground := Ground.data }, { on := 36, ground := Ground.chain }], guard := none } : Oper) (.bool true) (by kernel_rfl) rfl (by kernel_rfl) (by kernel_rfl) (fun _ _ _ h => h) rfl (y_move rfl rfl) hS7 ?_
                simp only [Act.put, List.setIfInBounds_toArray, List.set_cons_zero, List.set_cons_succ]
                refine h_pure 40 ({ dst := some 157, op := Op.load 27 (Operand.tmp 12), type := 27, pos := "law.go:107", after := #[{ on := 39, ground := Ground.guard }], guard := some (39, true) } : Oper) (.agg (ofF (wd (delI A n)))) (by kernel_rfl) rfl (by kernel_rfl) (by kernel_rfl) (fun _ _ _ h => h) rfl (y_load (g := g12) (f := wd (delI A n)) rfl rfl (load_blk b12 l12)) hS7 ?_
                simp only [Act.put, List.setIfInBounds_toArray, List.set_cons_zero, List.set_cons_succ]
                refine h_pure 41 ({ dst := some 158, op := Op.load 27 (Operand.tmp 6), type := 27, pos := "law.go:107", after := #[{ on := 39, ground := Ground.guard }], guard := some (39, true) } : Oper) (.agg (ofF (wd A))) (by kernel_rfl) rfl (by kernel_rfl) (by kernel_rfl) (fun _ _ _ h => h) rfl (y_load (g := g6) (f := wd A) rfl rfl (load_blk b6 l6)) hS7 ?_
                simp only [Act.put, List.setIfInBounds_toArray, List.set_cons_zero, List.set_cons_succ]
                refine h_callv 42 ({ dst := some 159, op := Op.call { callee := Callee.value (Operand.func 32), args := #[Operand.tmp 157, Operand.tmp 158], argTypes := #[27, 27] }, type := 4, pos := "law.go:107", after := #[{ on := 40, ground := Ground.data }, { on := 41, ground := Ground.data }, { on := 39, ground := Ground.chain }, { on := 39, ground := Ground.guard }], guard := some (39, true) } : Oper) (args := #[.agg (ofF (wd (delI A n))), .agg (ofF (wd A))]) (v := .bool true) own32 rfl rfl (by kernel_rfl) rfl rfl hS7 (within_true (small_delI hA n) hA (del_within A n) _) ?_
                intro vw8 hb8 hS8
                simp only [Act.put, List.setIfInBounds_toArray, List.set_cons_zero, List.set_cons_succ]
                refine h_pure 43 ({ dst := some 160, op := Op.pick (Operand.tmp 156) (Operand.tmp 159) (Operand.const (Value.bool false)), type := 4, pos := "law.go:107", after := #[{ on := 39, ground := Ground.data }, { on := 42, ground := Ground.data }], guard := none } : Oper) (.bool true) (by kernel_rfl) rfl (by kernel_rfl) (by kernel_rfl) (fun _ _ _ h => h) rfl (y_pick rfl rfl rfl) hS8 ?_
                simp only [Act.put, List.setIfInBounds_toArray, List.set_cons_zero, List.set_cons_succ]
                refine h_pure 44 ({ dst := some 161, op := Op.move (Operand.tmp 160), type := 4, pos := "law.go:107", after := #[{ on := 43, ground := Ground.data }, { on := 42, ground := Ground.chain }], guard := none } : Oper) (.bool true) (by kernel_rfl) rfl (by kernel_rfl) (by kernel_rfl) (fun _ _ _ h => h) rfl (y_move rfl rfl) hS8 ?_
                simp only [Act.put, List.setIfInBounds_toArray, List.set_cons_zero, List.set_cons_succ]
                refine h_pure 45 ({ dst := some 162, op := Op.load 27 (Operand.tmp 6), type := 27, pos := "law.go:107", after := #[{ on := 44, ground := Ground.guard }], guard := some (44, true) } : Oper) (.agg (ofF (wd A))) (by kernel_rfl) rfl (by kernel_rfl) (by kernel_rfl) (fun _ _ _ h => h) rfl (y_load (g := g6) (f := wd A) rfl rfl (load_blk b6 l6)) hS8 ?_
                simp only [Act.put, List.setIfInBounds_toArray, List.set_cons_zero, List.set_cons_succ]
                refine h_pure 46 ({ dst := some 163, op := Op.load 27 (Operand.tmp 11), type := 27, pos := "law.go:107", after := #[{ on := 44, ground := Ground.guard }], guard := some (44, true) } : Oper) (.agg (ofF (wd (addI A n)))) (by kernel_rfl) rfl (by kernel_rfl) (by kernel_rfl) (fun _ _ _ h => h) rfl (y_load (g := g11) (f := wd (addI A n)) rfl rfl (load_blk b11 l11)) hS8 ?_
                simp only [Act.put, List.setIfInBounds_toArray, List.set_cons_zero, List.set_cons_succ]
                refine h_callv 47 ({ dst := some 164, op := Op.call { callee := Callee.value (Operand.func 32), args := #[Operand.tmp 162, Operand.tmp 163], argTypes := #[27, 27] }, type := 4, pos := "law.go:107", after := #[{ on := 45, ground := Ground.data }, { on := 46, ground := Ground.data }, { on := 44, ground := Ground.chain }, { on := 44, ground := Ground.guard }], guard := some (44, true) } : Oper) (args := #[.agg (ofF (wd A)), .agg (ofF (wd (addI A n)))]) (v := .bool true) own32 rfl rfl (by kernel_rfl) rfl rfl hS8 (within_true hA (small_addI hA n) (add_within A n) _) ?_
                intro vw9 hb9 hS9
                simp only [Act.put, List.setIfInBounds_toArray, List.set_cons_zero, List.set_cons_succ]
                refine h_pure 48 ({ dst := some 165, op := Op.pick (Operand.tmp 161) (Operand.tmp 164) (Operand.const (Value.bool false)), type := 4, pos := "law.go:107", after := #[{ on := 44, ground := Ground.data }, { on := 47, ground := Ground.data }], guard := none } : Oper) (.bool true) (by kernel_rfl) rfl (by kernel_rfl) (by kernel_rfl) (fun _ _ _ h => h) rfl (y_pick rfl rfl rfl) hS9 ?_
                simp only [Act.put, List.setIfInBounds_toArray, List.set_cons_zero, List.set_cons_succ]
                refine h_pure 49 ({ dst := some 4, op := Op.assign (Operand.tmp 165), type := 4, pos := "law.go:107", after := #[{ on := 48, ground := Ground.data }, { on := 47, ground := Ground.chain }, { on := 0, ground := Ground.phase }, { on := 1, ground := Ground.phase }, { on := 2, ground := Ground.phase }, { on := 3, ground := Ground.phase }, { on := 4, ground := Ground.phase }, { on := 5, ground := Ground.phase }, { on := 6, ground := Ground.phase }, { on := 7, ground := Ground.phase }, { on := 8, ground := Ground.phase }, { on := 9, ground := Ground.phase }, { on := 10, ground := Ground.phase }, { on := 11, ground := Ground.phase }, { on := 12, ground := Ground.phase }, { on := 13, ground := Ground.phase }, { on := 14, ground := Ground.phase }, { on := 15, ground := Ground.phase }, { on := 16, ground := Ground.phase }, { on := 17, ground := Ground.phase }, { on := 18, ground := Ground.phase }, { on := 19, ground := Ground.phase }, { on := 20, ground := Ground.phase }, { on := 21, ground := Ground.phase }, { on := 22, ground := Ground.phase }, { on := 23, ground := Ground.phase }, { on := 24, ground := Ground.phase }, { on := 25, ground := Ground.phase }, { on := 26, ground := Ground.phase }, { on := 27, ground := Ground.phase }, { on := 28, ground := Ground.phase }, { on := 29, ground := Ground.phase }, { on := 30, ground := Ground.phase }, { on := 31, ground := Ground.phase }, { on := 32, ground := Ground.phase }, { on := 33, ground := Ground.phase }, { on := 34, ground := Ground.phase }, { on := 35, ground := Ground.phase }, { on := 36, ground := Ground.phase }, { on := 37, ground := Ground.phase }, { on := 38, ground := Ground.phase }, { on := 39, ground := Ground.phase }, { on := 40, ground := Ground.phase }, { on := 41, ground := Ground.phase }, { on := 42, ground := Ground.phase }, { on := 43, ground := Ground.phase }, { on := 44, ground := Ground.phase }, { on := 45, ground := Ground.phase }, { on := 46, ground := Ground.phase }, { on := 47, ground := Ground.phase }, { on := 48, ground := Ground.phase }], guard := none } : Oper) (.bool true) (by kernel_rfl) rfl (by kernel_rfl) (by kernel_rfl) (fun _ _ _ h => h) rfl (y_assign rfl rfl) hS9 ?_
                simp only [Act.put, List.setIfInBounds_toArray, List.set_cons_zero, List.set_cons_succ]
                refine wpAnyH_done (by kernel_rfl) ?_ _
                have hBz : Below w.heap.size w _ := bt hB20 hS9
                go_wp2
                go_ret
                exact ⟨rfl, hBz⟩

              · skip

                have hhb := fun w => Has (addI A n) n w
                rw [has_add, show decide (0 ≤ n ∧ n < 4096) = false by simp; omega] at hhb
                have HHb := Lib.hid hhb
                have hhc := fun w => Has (delI A n) n w
                rw [has_del] at hhc
                have HHc := Lib.hid hhc
                clear hhb hhc
                refine h_region ?_
                intro hS0
                refine h_pure 0 ({ dst := some 117, op := Op.move (Operand.tmp 8), type := 3, pos := "law.go:107", after := #[], guard := none } : Oper) (.int .i64 (-1)) (by kernel_rfl) rfl (by kernel_rfl) (by kernel_rfl) (fun _ _ _ h => h) rfl (y_move rfl rfl) hS0 ?_
                simp only [Act.put, List.setIfInBounds_toArray, List.set_cons_zero, List.set_cons_succ]
                refine h_pure 1 ({ dst := some 118, op := Op.binOp BinOp.eql 3 (Operand.tmp 117) (Operand.const (Value.int IntKind.i64 (-1))) 3, type := 4, pos := "law.go:107", after := #[{ on := 0, ground := Ground.data }], guard := none } : Oper) (.bool true) (by kernel_rfl) rfl (by kernel_rfl) (by kernel_rfl) (fun _ _ _ h => h) rfl (y_eqlI (u := (-1)) (v := (-1)) (b := true) rfl rfl rfl (by rfl)) hS0 ?_
                simp only [Act.put, List.setIfInBounds_toArray, List.set_cons_zero, List.set_cons_succ]
                refine h_pure 2 ({ dst := some 119, op := Op.move (Operand.tmp 118), type := 4, pos := "law.go:107", after := #[{ on := 1, ground := Ground.data }], guard := none } : Oper) (.bool true) (by kernel_rfl) rfl (by kernel_rfl) (by kernel_rfl) (fun _ _ _ h => h) rfl (y_move rfl rfl) hS0 ?_
                simp only [Act.put, List.setIfInBounds_toArray, List.set_cons_zero, List.set_cons_succ]
                refine h_pure 3 ({ dst := some 120, op := Op.move (Operand.tmp 7), type := 22, pos := "law.go:107", after := #[{ on := 2, ground := Ground.guard }], guard := some (2, true) } : Oper) (.slice A7 (els A 4096).length c7) (by kernel_rfl) rfl (by kernel_rfl) (by kernel_rfl) (fun _ _ _ h => h) rfl (y_move rfl rfl) hS0 ?_
                simp only [Act.put, List.setIfInBounds_toArray, List.set_cons_zero, List.set_cons_succ]
                refine h_pure 4 ({ dst := some 121, op := Op.call { callee := Callee.builtin Builtin.len, args := #[Operand.tmp 120], argTypes := #[22] }, type := 3, pos := "law.go:107", after := #[{ on := 3, ground := Ground.data }, { on := 2, ground := Ground.guard }], guard := some (2, true) } : Oper) (.int .i64 ((els A 4096).length : Int)) (by kernel_rfl) rfl (by kernel_rfl) (by kernel_rfl) (fun _ _ _ h => h) rfl (y_len (A := A7) (n := (els A 4096).length) (c := c7) rfl rfl) hS0 ?_
                simp only [Act.put, List.setIfInBounds_toArray, List.set_cons_zero, List.set_cons_succ]
                refine h_pure 5 ({ dst := some 122, op := Op.load 27 (Operand.tmp 6), type := 27, pos := "law.go:107", after := #[{ on := 2, ground := Ground.guard }], guard := some (2, true) } : Oper) (.agg (ofF (wd A))) (by kernel_rfl) rfl (by kernel_rfl) (by kernel_rfl) (fun _ _ _ h => h) rfl (y_load (g := g6) (f := wd A) rfl rfl (load_blk b6 l6)) hS0 ?_
                simp only [Act.put, List.setIfInBounds_toArray, List.set_cons_zero, List.set_cons_succ]
                refine h_callv 6 ({ dst := some 123, op := Op.call { callee := Callee.value (Operand.func 34), args := #[Operand.tmp 122], argTypes := #[27] }, type := 3, pos := "law.go:107", after := #[{ on := 5, ground := Ground.data }, { on := 2, ground := Ground.chain }, { on := 2, ground := Ground.guard }], guard := some (2, true) } : Oper) (args := #[.agg (ofF (wd A))]) (v := .int .i64 (cntK A 64 : Int)) own34 rfl rfl (by kernel_rfl) rfl rfl hS0 (Count A _) ?_
                intro vw1 hb1 hS1
                simp only [Act.put, List.setIfInBounds_toArray, List.set_cons_zero, List.set_cons_succ]
                refine h_pure 7 ({ dst := some 124, op := Op.binOp BinOp.eql 3 (Operand.tmp 121) (Operand.tmp 123) 3, type := 4, pos := "law.go:107", after := #[{ on := 4, ground := Ground.data }, { on := 6, ground := Ground.data }, { on := 2, ground := Ground.guard }], guard := some (2, true) } : Oper) (.bool true) (by kernel_rfl) rfl (by kernel_rfl) (by kernel_rfl) (fun _ _ _ h => h) rfl (y_eqlI (u := ((els A 4096).length : Int)) (v := (cntK A 64 : Int)) (b := true) rfl rfl rfl (by rw [beq_iff_eq, cnt_els])) hS1 ?_
                simp only [Act.put, List.setIfInBounds_toArray, List.set_cons_zero, List.set_cons_succ]
                refine h_pure 8 ({ dst := some 125, op := Op.pick (Operand.tmp 119) (Operand.tmp 124) (Operand.const (Value.bool false)), type := 4, pos := "law.go:107", after := #[{ on := 2, ground := Ground.data }, { on := 7, ground := Ground.data }], guard := none } : Oper) (.bool true) (by kernel_rfl) rfl (by kernel_rfl) (by kernel_rfl) (fun _ _ _ h => h) rfl (y_pick rfl rfl rfl) hS1 ?_
                simp only [Act.put, List.setIfInBounds_toArray, List.set_cons_zero, List.set_cons_succ]
                refine h_pure 9 ({ dst := some 126, op := Op.move (Operand.tmp 125), type := 4, pos := "law.go:107", after := #[{ on := 8, ground := Ground.data }, { on := 6, ground := Ground.chain }], guard := none } : Oper) (.bool true) (by kernel_rfl) rfl (by kernel_rfl) (by kernel_rfl) (fun _ _ _ h => h) rfl (y_move rfl rfl) hS1 ?_
                simp only [Act.put, List.setIfInBounds_toArray, List.set_cons_zero, List.set_cons_succ]
                refine h_pure 10 ({ dst := some 127, op := Op.move (Operand.tmp 7), type := 22, pos := "law.go:107", after := #[{ on := 9, ground := Ground.guard }], guard := some (9, true) } : Oper) (.slice A7 (els A 4096).length c7) (by kernel_rfl) rfl (by kernel_rfl) (by kernel_rfl) (fun _ _ _ h => h) rfl (y_move rfl rfl) hS1 ?_
                simp only [Act.put, List.setIfInBounds_toArray, List.set_cons_zero, List.set_cons_succ]
                refine h_pure 12 ({ dst := some 129, op := Op.load 27 (Operand.tmp 6), type := 27, pos := "law.go:107", after := #[{ on := 9, ground := Ground.guard }], guard := some (9, true) } : Oper) (.agg (ofF (wd A))) (by kernel_rfl) rfl (by kernel_rfl) (by kernel_rfl) (fun _ _ _ h => h) rfl (y_load (g := g6) (f := wd A) rfl rfl (load_blk b6 l6)) hS1 ?_
                simp only [Act.put, List.setIfInBounds_toArray, List.set_cons_zero, List.set_cons_succ]
                refine h_callv 11 ({ dst := some 128, op := Op.call { callee := Callee.value (Operand.func 10), args := #[Operand.tmp 127], argTypes := #[22] }, type := 27, pos := "law.go:107", after := #[{ on := 10, ground := Ground.data }, { on := 9, ground := Ground.chain }, { on := 9, ground := Ground.guard }], guard := some (9, true) } : Oper) (args := #[.slice A7 (els A 4096).length c7]) (v := .agg (ofF (wd (ofL (els A 4096))))) own10 rfl rfl (by kernel_rfl) rfl rfl hS1 (Of A7 c7 (els A 4096) _ (by have := els_len A 4096; omega) (hI7.below hS1)) ?_
                intro vw2 hb2 hS2
                simp only [Act.put, List.setIfInBounds_toArray, List.set_cons_zero, List.set_cons_succ]
                refine h_callv 13 ({ dst := some 130, op := Op.call { callee := Callee.value (Operand.func 30), args := #[Operand.tmp 128, Operand.tmp 129], argTypes := #[27, 27] }, type := 4, pos := "law.go:107", after := #[{ on := 11, ground := Ground.data }, { on := 12, ground := Ground.data }, { on := 11, ground := Ground.chain }, { on := 9, ground := Ground.guard }], guard := some (9, true) } : Oper) (args := #[.agg (ofF (wd (ofL (els A 4096)))), .agg (ofF (wd A))]) (v := .bool true) own30 rfl rfl (by kernel_rfl) rfl rfl hS2 (same_true (small_ofL (els A 4096)) hA (ofL_els hA) _) ?_
                intro vw3 hb3 hS3
                simp only [Act.put, List.setIfInBounds_toArray, List.set_cons_zero, List.set_cons_succ]
                refine h_pure 14 ({ dst := some 131, op := Op.pick (Operand.tmp 126) (Operand.tmp 130) (Operand.const (Value.bool false)), type := 4, pos := "law.go:107", after := #[{ on := 9, ground := Ground.data }, { on := 13, ground := Ground.data }], guard := none } : Oper) (.bool true) (by kernel_rfl) rfl (by kernel_rfl) (by kernel_rfl) (fun _ _ _ h => h) rfl (y_pick rfl rfl rfl) hS3 ?_
                simp only [Act.put, List.setIfInBounds_toArray, List.set_cons_zero, List.set_cons_succ]
                refine h_pure 15 ({ dst := some 132, op := Op.move (Operand.tmp 131), type := 4, pos := "law.go:107", after := #[{ on := 14, ground := Ground.data }, { on := 13, ground := Ground.chain }], guard := none } : Oper) (.bool true) (by kernel_rfl) rfl (by kernel_rfl) (by kernel_rfl) (fun _ _ _ h => h) rfl (y_move rfl rfl) hS3 ?_
                simp only [Act.put, List.setIfInBounds_toArray, List.set_cons_zero, List.set_cons_succ]
                refine h_pure 16 ({ dst := some 133, op := Op.load 27 (Operand.tmp 6), type := 27, pos := "law.go:107", after := #[{ on := 15, ground := Ground.guard }], guard := some (15, true) } : Oper) (.agg (ofF (wd A))) (by kernel_rfl) rfl (by kernel_rfl) (by kernel_rfl) (fun _ _ _ h => h) rfl (y_load (g := g6) (f := wd A) rfl rfl (load_blk b6 l6)) hS3 ?_
                simp only [Act.put, List.setIfInBounds_toArray, List.set_cons_zero, List.set_cons_succ]
                refine h_pure 18 ({ dst := some 135, op := Op.move (Operand.tmp 7), type := 22, pos := "law.go:107", after := #[{ on := 15, ground := Ground.guard }], guard := some (15, true) } : Oper) (.slice A7 (els A 4096).length c7) (by kernel_rfl) rfl (by kernel_rfl) (by kernel_rfl) (fun _ _ _ h => h) rfl (y_move rfl rfl) hS3 ?_
                simp only [Act.put, List.setIfInBounds_toArray, List.set_cons_zero, List.set_cons_succ]
                refine h_call 17 ({ dst := some 134, op := Op.call { callee := Callee.value (Operand.func 35), args := #[Operand.tmp 133], argTypes := #[27] }, type := 22, pos := "law.go:107", after := #[{ on := 16, ground := Ground.data }, { on := 15, ground := Ground.chain }, { on := 15, ground := Ground.guard }], guard := some (15, true) } : Oper) (args := #[.agg (ofF (wd A))]) (fun v w1 => ∃ Ax cx, v = .slice Ax (els A 4096).length cx ∧ Ints w1 Ax (els A 4096) ∧ Below vw3.heap.size vw3 w1) own35 rfl rfl (by kernel_rfl) rfl rfl (list_call A _ (HTc.out _ hS3)) ?_
                rintro _ vw4 ⟨AX, cX, rfl, hIX, hb4⟩
                have hS4 := hS3.trans hb4
                refine ⟨hS4, ?_⟩
                simp only [Act.put, List.setIfInBounds_toArray, List.set_cons_zero, List.set_cons_succ]
                refine h_callv 19 ({ dst := some 136, op := Op.call { callee := Callee.value (Operand.func 36), args := #[Operand.tmp 134, Operand.tmp 135], argTypes := #[22, 22] }, type := 4, pos := "law.go:107", after := #[{ on := 17, ground := Ground.data }, { on := 18, ground := Ground.data }, { on := 17, ground := Ground.chain }, { on := 15, ground := Ground.guard }], guard := some (15, true) } : Oper) (args := #[.slice AX (els A 4096).length cX, .slice A7 (els A 4096).length c7]) (v := .bool true) own36 rfl rfl (by kernel_rfl) rfl rfl hS4 (same_self AX A7 cX c7 (els A 4096) _ (by have := els_len A 4096; omega) hIX (hI7.below hS4)) ?_
                intro vw5 hb5 hS5
                simp only [Act.put, List.setIfInBounds_toArray, List.set_cons_zero, List.set_cons_succ]
                refine h_pure 20 ({ dst := some 137, op := Op.pick (Operand.tmp 132) (Operand.tmp 136) (Operand.const (Value.bool false)), type := 4, pos := "law.go:107", after := #[{ on := 15, ground := Ground.data }, { on := 19, ground := Ground.data }], guard := none } : Oper) (.bool true) (by kernel_rfl) rfl (by kernel_rfl) (by kernel_rfl) (fun _ _ _ h => h) rfl (y_pick rfl rfl rfl) hS5 ?_
                simp only [Act.put, List.setIfInBounds_toArray, List.set_cons_zero, List.set_cons_succ]
                refine h_pure 21 ({ dst := some 138, op := Op.move (Operand.tmp 137), type := 4, pos := "law.go:107", after := #[{ on := 20, ground := Ground.data }, { on := 19, ground := Ground.chain }], guard := none } : Oper) (.bool true) (by kernel_rfl) rfl (by kernel_rfl) (by kernel_rfl) (fun _ _ _ h => h) rfl (y_move rfl rfl) hS5 ?_
                simp only [Act.put, List.setIfInBounds_toArray, List.set_cons_zero, List.set_cons_succ]
                refine h_pure 22 ({ dst := some 139, op := Op.load 27 (Operand.tmp 11), type := 27, pos := "law.go:107", after := #[{ on := 21, ground := Ground.guard }], guard := some (21, true) } : Oper) (.agg (ofF (wd (addI A n)))) (by kernel_rfl) rfl (by kernel_rfl) (by kernel_rfl) (fun _ _ _ h => h) rfl (y_load (g := g11) (f := wd (addI A n)) rfl rfl (load_blk b11 l11)) hS5 ?_
                simp only [Act.put, List.setIfInBounds_toArray, List.set_cons_zero, List.set_cons_succ]
                refine h_pure 23 ({ dst := some 140, op := Op.move (Operand.tmp 1), type := 3, pos := "law.go:107", after := #[{ on := 21, ground := Ground.guard }], guard := some (21, true) } : Oper) (.int .i64 n) (by kernel_rfl) rfl (by kernel_rfl) (by kernel_rfl) (fun _ _ _ h => h) rfl (y_move rfl rfl) hS5 ?_
                simp only [Act.put, List.setIfInBounds_toArray, List.set_cons_zero, List.set_cons_succ]
                refine h_pure 25 ({ dst := some 142, op := Op.move (Operand.tmp 1), type := 3, pos := "law.go:107", after := #[{ on := 21, ground := Ground.guard }], guard := some (21, true) } : Oper) (.int .i64 n) (by kernel_rfl) rfl (by kernel_rfl) (by kernel_rfl) (fun _ _ _ h => h) rfl (y_move rfl rfl) hS5 ?_
                simp only [Act.put, List.setIfInBounds_toArray, List.set_cons_zero, List.set_cons_succ]
                refine h_pure 26 ({ dst := some 143, op := Op.binOp BinOp.geq 3 (Operand.tmp 142) (Operand.const (Value.int IntKind.i64 0)) 3, type := 4, pos := "law.go:107", after := #[{ on := 25, ground := Ground.data }, { on := 21, ground := Ground.guard }], guard := some (21, true) } : Oper) (.bool true) (by kernel_rfl) rfl (by kernel_rfl) (by kernel_rfl) (fun _ _ _ h => h) rfl (y_geq (u := n) (v := (0 : Int)) (b := true) rfl rfl rfl (by first | (simp; done) | (simp; omega))) hS5 ?_
                simp only [Act.put, List.setIfInBounds_toArray, List.set_cons_zero, List.set_cons_succ]
                refine h_callv 24 ({ dst := some 141, op := Op.call { callee := Callee.value (Operand.func 17), args := #[Operand.tmp 139, Operand.tmp 140], argTypes := #[27, 3] }, type := 4, pos := "law.go:107", after := #[{ on := 22, ground := Ground.data }, { on := 23, ground := Ground.data }, { on := 21, ground := Ground.chain }, { on := 21, ground := Ground.guard }], guard := some (21, true) } : Oper) (args := #[.agg (ofF (wd (addI A n))), .int .i64 n]) (v := .bool false) own17 rfl rfl (by kernel_rfl) rfl rfl hS5 (HHb.out _) ?_
                intro vw6 hb6 hS6
                simp only [Act.put, List.setIfInBounds_toArray, List.set_cons_zero, List.set_cons_succ]
                refine h_pure 27 ({ dst := some 144, op := Op.move (Operand.tmp 143), type := 4, pos := "law.go:107", after := #[{ on := 26, ground := Ground.data }, { on := 24, ground := Ground.chain }, { on := 21, ground := Ground.guard }], guard := some (21, true) } : Oper) (.bool true) (by kernel_rfl) rfl (by kernel_rfl) (by kernel_rfl) (fun _ _ _ h => h) rfl (y_move rfl rfl) hS6 ?_
                simp only [Act.put, List.setIfInBounds_toArray, List.set_cons_zero, List.set_cons_succ]
                refine h_pure 28 ({ dst := some 145, op := Op.move (Operand.tmp 1), type := 3, pos := "law.go:107", after := #[{ on := 27, ground := Ground.guard }], guard := some (27, true) } : Oper) (.int .i64 n) (by kernel_rfl) rfl (by kernel_rfl) (by kernel_rfl) (fun _ _ _ h => h) rfl (y_move rfl rfl) hS6 ?_
                simp only [Act.put, List.setIfInBounds_toArray, List.set_cons_zero, List.set_cons_succ]
                refine h_pure 29 ({ dst := some 146, op := Op.binOp BinOp.lss 3 (Operand.tmp 145) (Operand.const (Value.int IntKind.i64 4096)) 3, type := 4, pos := "law.go:107", after := #[{ on := 28, ground := Ground.data }, { on := 27, ground := Ground.guard }], guard := some (27, true) } : Oper) (.bool false) (by kernel_rfl) rfl (by kernel_rfl) (by kernel_rfl) (fun _ _ _ h => h) rfl (y_lss (u := n) (v := (4096 : Int)) (b := false) rfl rfl rfl (by first | (simp; done) | (simp; omega))) hS6 ?_
                simp only [Act.put, List.setIfInBounds_toArray, List.set_cons_zero, List.set_cons_succ]
                refine h_pure 30 ({ dst := some 147, op := Op.pick (Operand.tmp 144) (Operand.tmp 146) (Operand.const (Value.bool false)), type := 4, pos := "law.go:107", after := #[{ on := 27, ground := Ground.data }, { on := 29, ground := Ground.data }, { on := 21, ground := Ground.guard }], guard := some (21, true) } : Oper) (.bool false) (by kernel_rfl) rfl (by kernel_rfl) (by kernel_rfl) (fun _ _ _ h => h) rfl (y_pick rfl rfl rfl) hS6 ?_
                simp only [Act.put, List.setIfInBounds_toArray, List.set_cons_zero, List.set_cons_succ]
                refine h_pure 31 ({ dst := some 148, op := Op.binOp BinOp.eql 4 (Operand.tmp 141) (Operand.tmp 147) 4, type := 4, pos := "law.go:107", after := #[{ on := 24, ground := Ground.data }, { on := 30, ground := Ground.data }, { on := 21, ground := Ground.guard }], guard := some (21, true) } : Oper) (.bool true) (by kernel_rfl) rfl (by kernel_rfl) (by kernel_rfl) (fun _ _ _ h => h) rfl (y_eqlB (u := false) (v := false) (b := true) rfl rfl rfl (rfl)) hS6 ?_
                simp only [Act.put, List.setIfInBounds_toArray, List.set_cons_zero, List.set_cons_succ]
                refine h_pure 32 ({ dst := some 149, op := Op.pick (Operand.tmp 138) (Operand.tmp 148) (Operand.const (Value.bool false)), type := 4, pos := "law.go:107", after := #[{ on := 21, ground := Ground.data }, { on := 31, ground := Ground.data }], guard := none } : Oper) (.bool true) (by kernel_rfl) rfl (by kernel_rfl) (by kernel_rfl) (fun _ _ _ h => h) rfl (y_pick rfl rfl rfl) hS6 ?_
                simp only [Act.put, List.setIfInBounds_toArray, List.set_cons_zero, List.set_cons_succ]
                refine h_pure 33 ({ dst := some 150, op := Op.move (Operand.tmp 149), type := 4, pos := "law.go:107", after := #[{ on := 32, ground := Ground.data }, { on := 27, ground := Ground.chain }], guard := none } : Oper) (.bool true) (by kernel_rfl) rfl (by kernel_rfl) (by kernel_rfl) (fun _ _ _ h => h) rfl (y_move rfl rfl) hS6 ?_
                simp only [Act.put, List.setIfInBounds_toArray, List.set_cons_zero, List.set_cons_succ]
                refine h_pure 34 ({ dst := some 151, op := Op.load 27 (Operand.tmp 12), type := 27, pos := "law.go:107", after := #[{ on := 33, ground := Ground.guard }], guard := some (33, true) } : Oper) (.agg (ofF (wd (delI A n)))) (by kernel_rfl) rfl (by kernel_rfl) (by kernel_rfl) (fun _ _ _ h => h) rfl (y_load (g := g12) (f := wd (delI A n)) rfl rfl (load_blk b12 l12)) hS6 ?_
                simp only [Act.put, List.setIfInBounds_toArray, List.set_cons_zero, List.set_cons_succ]
                refine h_pure 35 ({ dst := some 152, op := Op.move (Operand.tmp 1), type := 3, pos := "law.go:107", after := #[{ on := 33, ground := Ground.guard }], guard := some (33, true) } : Oper) (.int .i64 n) (by kernel_rfl) rfl (by kernel_rfl) (by kernel_rfl) (fun _ _ _ h => h) rfl (y_move rfl rfl) hS6 ?_
                simp only [Act.put, List.setIfInBounds_toArray, List.set_cons_zero, List.set_cons_succ]
                refine h_callv 36 ({ dst := some 153, op := Op.call { callee := Callee.value (Operand.func 17), args := #[Operand.tmp 151, Operand.tmp 152], argTypes := #[27, 3] }, type := 4, pos := "law.go:107", after := #[{ on := 34, ground := Ground.data }, { on := 35, ground := Ground.data }, { on := 33, ground := Ground.chain }, { on := 33, ground := Ground.guard }], guard := some (33, true) } : Oper) (args := #[.agg (ofF (wd (delI A n))), .int .i64 n]) (v := .bool false) own17 rfl rfl (by kernel_rfl) rfl rfl hS6 (HHc.out _) ?_
                intro vw7 hb7 hS7
                simp only [Act.put, List.setIfInBounds_toArray, List.set_cons_zero, List.set_cons_succ]
                refine h_pure 37 ({ dst := some 154, op := Op.unOp UnOp.not 4 (Operand.tmp 153), type := 4, pos := "law.go:107", after := #[{ on := 36, ground := Ground.data }, { on := 33, ground := Ground.guard }], guard := some (33, true) } : Oper) (.bool true) (by kernel_rfl) rfl (by kernel_rfl) (by kernel_rfl) (fun _ _ _ h => h) rfl (y_not (u := false) (b := true) rfl rfl rfl) hS7 ?_
                simp only [Act.put, List.setIfInBounds_toArray, List.set_cons_zero, List.set_cons_succ]
                refine h_pure 38 ({ dst := some 155, op := Op.pick (Operand.tmp 150) (Operand.tmp 154) (Operand.const (Value.bool false)), type := 4, pos := "law.go:107", after := #[{ on := 33, ground := Ground.data }, { on := 37, ground := Ground.data }], guard := none } : Oper) (.bool true) (by kernel_rfl) rfl (by kernel_rfl) (by kernel_rfl) (fun _ _ _ h => h) rfl (y_pick rfl rfl rfl) hS7 ?_
                simp only [Act.put, List.setIfInBounds_toArray, List.set_cons_zero, List.set_cons_succ]
                refine h_pure 39 ({ dst := some 156, op := Op.move (Operand.tmp 155), type := 4, pos := "law.go:107", after := #[{ on := 38, ground := Ground.data }, { on := 36, ground := Ground.chain }], guard := none } : Oper) (.bool true) (by kernel_rfl) rfl (by kernel_rfl) (by kernel_rfl) (fun _ _ _ h => h) rfl (y_move rfl rfl) hS7 ?_
                simp only [Act.put, List.setIfInBounds_toArray, List.set_cons_zero, List.set_cons_succ]
                refine h_pure 40 ({ dst := some 157, op := Op.load 27 (Operand.tmp 12), type := 27, pos := "law.go:107", after := #[{ on := 39, ground := Ground.guard }], guard := some (39, true) } : Oper) (.agg (ofF (wd (delI A n)))) (by kernel_rfl) rfl (by kernel_rfl) (by kernel_rfl) (fun _ _ _ h => h) rfl (y_load (g := g12) (f := wd (delI A n)) rfl rfl (load_blk b12 l12)) hS7 ?_
                simp only [Act.put, List.setIfInBounds_toArray, List.set_cons_zero, List.set_cons_succ]
                refine h_pure 41 ({ dst := some 158, op := Op.load 27 (Operand.tmp 6), type := 27, pos := "law.go:107", after := #[{ on := 39, ground := Ground.guard }], guard := some (39, true) } : Oper) (.agg (ofF (wd A))) (by kernel_rfl) rfl (by kernel_rfl) (by kernel_rfl) (fun _ _ _ h => h) rfl (y_load (g := g6) (f := wd A) rfl rfl (load_blk b6 l6)) hS7 ?_
                simp only [Act.put, List.setIfInBounds_toArray, List.set_cons_zero, List.set_cons_succ]
                refine h_callv 42 ({ dst := some 159, op := Op.call { callee := Callee.value (Operand.func 32), args := #[Operand.tmp 157, Operand.tmp 158], argTypes := #[27, 27] }, type := 4, pos := "law.go:107", after := #[{ on := 40, ground := Ground.data }, { on := 41, ground := Ground.data }, { on := 39, ground := Ground.chain }, { on := 39, ground := Ground.guard }], guard := some (39, true) } : Oper) (args := #[.agg (ofF (wd (delI A n))), .agg (ofF (wd A))]) (v := .bool true) own32 rfl rfl (by kernel_rfl) rfl rfl hS7 (within_true (small_delI hA n) hA (del_within A n) _) ?_
                intro vw8 hb8 hS8
                simp only [Act.put, List.setIfInBounds_toArray, List.set_cons_zero, List.set_cons_succ]
                refine h_pure 43 ({ dst := some 160, op := Op.pick (Operand.tmp 156) (Operand.tmp 159) (Operand.const (Value.bool false)), type := 4, pos := "law.go:107", after := #[{ on := 39, ground := Ground.data }, { on := 42, ground := Ground.data }], guard := none } : Oper) (.bool true) (by kernel_rfl) rfl (by kernel_rfl) (by kernel_rfl) (fun _ _ _ h => h) rfl (y_pick rfl rfl rfl) hS8 ?_
                simp only [Act.put, List.setIfInBounds_toArray, List.set_cons_zero, List.set_cons_succ]
                refine h_pure 44 ({ dst := some 161, op := Op.move (Operand.tmp 160), type := 4, pos := "law.go:107", after := #[{ on := 43, ground := Ground.data }, { on := 42, ground := Ground.chain }], guard := none } : Oper) (.bool true) (by kernel_rfl) rfl (by kernel_rfl) (by kernel_rfl) (fun _ _ _ h => h) rfl (y_move rfl rfl) hS8 ?_
                simp only [Act.put, List.setIfInBounds_toArray, List.set_cons_zero, List.set_cons_succ]
                refine h_pure 45 ({ dst := some 162, op := Op.load 27 (Operand.tmp 6), type := 27, pos := "law.go:107", after := #[{ on := 44, ground := Ground.guard }], guard := some (44, true) } : Oper) (.agg (ofF (wd A))) (by kernel_rfl) rfl (by kernel_rfl) (by kernel_rfl) (fun _ _ _ h => h) rfl (y_load (g := g6) (f := wd A) rfl rfl (load_blk b6 l6)) hS8 ?_
                simp only [Act.put, List.setIfInBounds_toArray, List.set_cons_zero, List.set_cons_succ]
                refine h_pure 46 ({ dst := some 163, op := Op.load 27 (Operand.tmp 11), type := 27, pos := "law.go:107", after := #[{ on := 44, ground := Ground.guard }], guard := some (44, true) } : Oper) (.agg (ofF (wd (addI A n)))) (by kernel_rfl) rfl (by kernel_rfl) (by kernel_rfl) (fun _ _ _ h => h) rfl (y_load (g := g11) (f := wd (addI A n)) rfl rfl (load_blk b11 l11)) hS8 ?_
                simp only [Act.put, List.setIfInBounds_toArray, List.set_cons_zero, List.set_cons_succ]
                refine h_callv 47 ({ dst := some 164, op := Op.call { callee := Callee.value (Operand.func 32), args := #[Operand.tmp 162, Operand.tmp 163], argTypes := #[27, 27] }, type := 4, pos := "law.go:107", after := #[{ on := 45, ground := Ground.data }, { on := 46, ground := Ground.data }, { on := 44, ground := Ground.chain }, { on := 44, ground := Ground.guard }], guard := some (44, true) } : Oper) (args := #[.agg (ofF (wd A)), .agg (ofF (wd (addI A n)))]) (v := .bool true) own32 rfl rfl (by kernel_rfl) rfl rfl hS8 (within_true hA (small_addI hA n) (add_within A n) _) ?_
                intro vw9 hb9 hS9
                simp only [Act.put, List.setIfInBounds_toArray, List.set_cons_zero, List.set_cons_succ]
                refine h_pure 48 ({ dst := some 165, op := Op.pick (Operand.tmp 161) (Operand.tmp 164) (Operand.const (Value.bool false)), type := 4, pos := "law.go:107", after := #[{ on := 44, ground := Ground.data }, { on := 47, ground := Ground.data }], guard := none } : Oper) (.bool true) (by kernel_rfl) rfl (by kernel_rfl) (by kernel_rfl) (fun _ _ _ h => h) rfl (y_pick rfl rfl rfl) hS9 ?_
                simp only [Act.put, List.setIfInBounds_toArray, List.set_cons_zero, List.set_cons_succ]
                refine h_pure 49 ({ dst := some 4, op := Op.assign (Operand.tmp 165), type := 4, pos := "law.go:107", after := #[{ on := 48, ground := Ground.data }, { on := 47, ground := Ground.chain }, { on := 0, ground := Ground.phase }, { on := 1, ground := Ground.phase }, { on := 2, ground := Ground.phase }, { on := 3, ground := Ground.phase }, { on := 4, ground := Ground.phase }, { on := 5, ground := Ground.phase }, { on := 6, ground := Ground.phase }, { on := 7, ground := Ground.phase }, { on := 8, ground := Ground.phase }, { on := 9, ground := Ground.phase }, { on := 10, ground := Ground.phase }, { on := 11, ground := Ground.phase }, { on := 12, ground := Ground.phase }, { on := 13, ground := Ground.phase }, { on := 14, ground := Ground.phase }, { on := 15, ground := Ground.phase }, { on := 16, ground := Ground.phase }, { on := 17, ground := Ground.phase }, { on := 18, ground := Ground.phase }, { on := 19, ground := Ground.phase }, { on := 20, ground := Ground.phase }, { on := 21, ground := Ground.phase }, { on := 22, ground := Ground.phase }, { on := 23, ground := Ground.phase }, { on := 24, ground := Ground.phase }, { on := 25, ground := Ground.phase }, { on := 26, ground := Ground.phase }, { on := 27, ground := Ground.phase }, { on := 28, ground := Ground.phase }, { on := 29, ground := Ground.phase }, { on := 30, ground := Ground.phase }, { on := 31, ground := Ground.phase }, { on := 32, ground := Ground.phase }, { on := 33, ground := Ground.phase }, { on := 34, ground := Ground.phase }, { on := 35, ground := Ground.phase }, { on := 36, ground := Ground.phase }, { on := 37, ground := Ground.phase }, { on := 38, ground := Ground.phase }, { on := 39, ground := Ground.phase }, { on := 40, ground := Ground.phase }, { on := 41, ground := Ground.phase }, { on := 42, ground := Ground.phase }, { on := 43, ground := Ground.phase }, { on := 44, ground := Ground.phase }, { on := 45, ground := Ground.phase }, { on := 46, ground := Ground.phase }, { on := 47, ground := Ground.phase }, { on := 48, ground := Ground.phase }], guard := none } : Oper) (.bool true) (by kernel_rfl) rfl (by kernel_rfl) (by kernel_rfl) (fun _ _ _ h => h) rfl (y_assign rfl rfl) hS9 ?_
                simp only [Act.put, List.setIfInBounds_toArray, List.set_cons_zero, List.set_cons_succ]
                refine wpAnyH_done (by kernel_rfl) ?_ _
                have hBz : Below w.heap.size w _ := bt hB20 hS9
                go_wp2
                go_ret
                exact ⟨rfl, hBz⟩

            · skip

              have hhb := fun w => Has (addI A n) n w
              rw [has_add, show decide (0 ≤ n ∧ n < 4096) = false by simp; omega] at hhb
              have HHb := Lib.hid hhb
              have hhc := fun w => Has (delI A n) n w
              rw [has_del] at hhc
              have HHc := Lib.hid hhc
              clear hhb hhc
              refine h_region ?_
              intro hS0
              refine h_pure 0 ({ dst := some 117, op := Op.move (Operand.tmp 8), type := 3, pos := "law.go:107", after := #[], guard := none } : Oper) (.int .i64 (-1)) (by kernel_rfl) rfl (by kernel_rfl) (by kernel_rfl) (fun _ _ _ h => h) rfl (y_move rfl rfl) hS0 ?_
              simp only [Act.put, List.setIfInBounds_toArray, List.set_cons_zero, List.set_cons_succ]
              refine h_pure 1 ({ dst := some 118, op := Op.binOp BinOp.eql 3 (Operand.tmp 117) (Operand.const (Value.int IntKind.i64 (-1))) 3, type := 4, pos := "law.go:107", after := #[{ on := 0, ground := Ground.data }], guard := none } : Oper) (.bool true) (by kernel_rfl) rfl (by kernel_rfl) (by kernel_rfl) (fun _ _ _ h => h) rfl (y_eqlI (u := (-1)) (v := (-1)) (b := true) rfl rfl rfl (by rfl)) hS0 ?_
              simp only [Act.put, List.setIfInBounds_toArray, List.set_cons_zero, List.set_cons_succ]
              refine h_pure 2 ({ dst := some 119, op := Op.move (Operand.tmp 118), type := 4, pos := "law.go:107", after := #[{ on := 1, ground := Ground.data }], guard := none } : Oper) (.bool true) (by kernel_rfl) rfl (by kernel_rfl) (by kernel_rfl) (fun _ _ _ h => h) rfl (y_move rfl rfl) hS0 ?_
              simp only [Act.put, List.setIfInBounds_toArray, List.set_cons_zero, List.set_cons_succ]
              refine h_pure 3 ({ dst := some 120, op := Op.move (Operand.tmp 7), type := 22, pos := "law.go:107", after := #[{ on := 2, ground := Ground.guard }], guard := some (2, true) } : Oper) (.slice A7 (els A 4096).length c7) (by kernel_rfl) rfl (by kernel_rfl) (by kernel_rfl) (fun _ _ _ h => h) rfl (y_move rfl rfl) hS0 ?_
              simp only [Act.put, List.setIfInBounds_toArray, List.set_cons_zero, List.set_cons_succ]
              refine h_pure 4 ({ dst := some 121, op := Op.call { callee := Callee.builtin Builtin.len, args := #[Operand.tmp 120], argTypes := #[22] }, type := 3, pos := "law.go:107", after := #[{ on := 3, ground := Ground.data }, { on := 2, ground := Ground.guard }], guard := some (2, true) } : Oper) (.int .i64 ((els A 4096).length : Int)) (by kernel_rfl) rfl (by kernel_rfl) (by kernel_rfl) (fun _ _ _ h => h) rfl (y_len (A := A7) (n := (els A 4096).length) (c := c7) rfl rfl) hS0 ?_
              simp only [Act.put, List.setIfInBounds_toArray, List.set_cons_zero, List.set_cons_succ]
              refine h_pure 5 ({ dst := some 122, op := Op.load 27 (Operand.tmp 6), type := 27, pos := "law.go:107", after := #[{ on := 2, ground := Ground.guard }], guard := some (2, true) } : Oper) (.agg (ofF (wd A))) (by kernel_rfl) rfl (by kernel_rfl) (by kernel_rfl) (fun _ _ _ h => h) rfl (y_load (g := g6) (f := wd A) rfl rfl (load_blk b6 l6)) hS0 ?_
              simp only [Act.put, List.setIfInBounds_toArray, List.set_cons_zero, List.set_cons_succ]
              refine h_callv 6 ({ dst := some 123, op := Op.call { callee := Callee.value (Operand.func 34), args := #[Operand.tmp 122], argTypes := #[27] }, type := 3, pos := "law.go:107", after := #[{ on := 5, ground := Ground.data }, { on := 2, ground := Ground.chain }, { on := 2, ground := Ground.guard }], guard := some (2, true) } : Oper) (args := #[.agg (ofF (wd A))]) (v := .int .i64 (cntK A 64 : Int)) own34 rfl rfl (by kernel_rfl) rfl rfl hS0 (Count A _) ?_
              intro vw1 hb1 hS1
              simp only [Act.put, List.setIfInBounds_toArray, List.set_cons_zero, List.set_cons_succ]
              refine h_pure 7 ({ dst := some 124, op := Op.binOp BinOp.eql 3 (Operand.tmp 121) (Operand.tmp 123) 3, type := 4, pos := "law.go:107", after := #[{ on := 4, ground := Ground.data }, { on := 6, ground := Ground.data }, { on := 2, ground := Ground.guard }], guard := some (2, true) } : Oper) (.bool true) (by kernel_rfl) rfl (by kernel_rfl) (by kernel_rfl) (fun _ _ _ h => h) rfl (y_eqlI (u := ((els A 4096).length : Int)) (v := (cntK A 64 : Int)) (b := true) rfl rfl rfl (by rw [beq_iff_eq, cnt_els])) hS1 ?_
              simp only [Act.put, List.setIfInBounds_toArray, List.set_cons_zero, List.set_cons_succ]
              refine h_pure 8 ({ dst := some 125, op := Op.pick (Operand.tmp 119) (Operand.tmp 124) (Operand.const (Value.bool false)), type := 4, pos := "law.go:107", after := #[{ on := 2, ground := Ground.data }, { on := 7, ground := Ground.data }], guard := none } : Oper) (.bool true) (by kernel_rfl) rfl (by kernel_rfl) (by kernel_rfl) (fun _ _ _ h => h) rfl (y_pick rfl rfl rfl) hS1 ?_
              simp only [Act.put, List.setIfInBounds_toArray, List.set_cons_zero, List.set_cons_succ]
              refine h_pure 9 ({ dst := some 126, op := Op.move (Operand.tmp 125), type := 4, pos := "law.go:107", after := #[{ on := 8, ground := Ground.data }, { on := 6, ground := Ground.chain }], guard := none } : Oper) (.bool true) (by kernel_rfl) rfl (by kernel_rfl) (by kernel_rfl) (fun _ _ _ h => h) rfl (y_move rfl rfl) hS1 ?_
              simp only [Act.put, List.setIfInBounds_toArray, List.set_cons_zero, List.set_cons_succ]
              refine h_pure 10 ({ dst := some 127, op := Op.move (Operand.tmp 7), type := 22, pos := "law.go:107", after := #[{ on := 9, ground := Ground.guard }], guard := some (9, true) } : Oper) (.slice A7 (els A 4096).length c7) (by kernel_rfl) rfl (by kernel_rfl) (by kernel_rfl) (fun _ _ _ h => h) rfl (y_move rfl rfl) hS1 ?_
              simp only [Act.put, List.setIfInBounds_toArray, List.set_cons_zero, List.set_cons_succ]
              refine h_pure 12 ({ dst := some 129, op := Op.load 27 (Operand.tmp 6), type := 27, pos := "law.go:107", after := #[{ on := 9, ground := Ground.guard }], guard := some (9, true) } : Oper) (.agg (ofF (wd A))) (by kernel_rfl) rfl (by kernel_rfl) (by kernel_rfl) (fun _ _ _ h => h) rfl (y_load (g := g6) (f := wd A) rfl rfl (load_blk b6 l6)) hS1 ?_
              simp only [Act.put, List.setIfInBounds_toArray, List.set_cons_zero, List.set_cons_succ]
              refine h_callv 11 ({ dst := some 128, op := Op.call { callee := Callee.value (Operand.func 10), args := #[Operand.tmp 127], argTypes := #[22] }, type := 27, pos := "law.go:107", after := #[{ on := 10, ground := Ground.data }, { on := 9, ground := Ground.chain }, { on := 9, ground := Ground.guard }], guard := some (9, true) } : Oper) (args := #[.slice A7 (els A 4096).length c7]) (v := .agg (ofF (wd (ofL (els A 4096))))) own10 rfl rfl (by kernel_rfl) rfl rfl hS1 (Of A7 c7 (els A 4096) _ (by have := els_len A 4096; omega) (hI7.below hS1)) ?_
              intro vw2 hb2 hS2
              simp only [Act.put, List.setIfInBounds_toArray, List.set_cons_zero, List.set_cons_succ]
              refine h_callv 13 ({ dst := some 130, op := Op.call { callee := Callee.value (Operand.func 30), args := #[Operand.tmp 128, Operand.tmp 129], argTypes := #[27, 27] }, type := 4, pos := "law.go:107", after := #[{ on := 11, ground := Ground.data }, { on := 12, ground := Ground.data }, { on := 11, ground := Ground.chain }, { on := 9, ground := Ground.guard }], guard := some (9, true) } : Oper) (args := #[.agg (ofF (wd (ofL (els A 4096)))), .agg (ofF (wd A))]) (v := .bool true) own30 rfl rfl (by kernel_rfl) rfl rfl hS2 (same_true (small_ofL (els A 4096)) hA (ofL_els hA) _) ?_
              intro vw3 hb3 hS3
              simp only [Act.put, List.setIfInBounds_toArray, List.set_cons_zero, List.set_cons_succ]
              refine h_pure 14 ({ dst := some 131, op := Op.pick (Operand.tmp 126) (Operand.tmp 130) (Operand.const (Value.bool false)), type := 4, pos := "law.go:107", after := #[{ on := 9, ground := Ground.data }, { on := 13, ground := Ground.data }], guard := none } : Oper) (.bool true) (by kernel_rfl) rfl (by kernel_rfl) (by kernel_rfl) (fun _ _ _ h => h) rfl (y_pick rfl rfl rfl) hS3 ?_
              simp only [Act.put, List.setIfInBounds_toArray, List.set_cons_zero, List.set_cons_succ]
              refine h_pure 15 ({ dst := some 132, op := Op.move (Operand.tmp 131), type := 4, pos := "law.go:107", after := #[{ on := 14, ground := Ground.data }, { on := 13, ground := Ground.chain }], guard := none } : Oper) (.bool true) (by kernel_rfl) rfl (by kernel_rfl) (by kernel_rfl) (fun _ _ _ h => h) rfl (y_move rfl rfl) hS3 ?_
              simp only [Act.put, List.setIfInBounds_toArray, List.set_cons_zero, List.set_cons_succ]
              refine h_pure 16 ({ dst := some 133, op := Op.load 27 (Operand.tmp 6), type := 27, pos := "law.go:107", after := #[{ on := 15, ground := Ground.guard }], guard := some (15, true) } : Oper) (.agg (ofF (wd A))) (by kernel_rfl) rfl (by kernel_rfl) (by kernel_rfl) (fun _ _ _ h => h) rfl (y_load (g := g6) (f := wd A) rfl rfl (load_blk b6 l6)) hS3 ?_
              simp only [Act.put, List.setIfInBounds_toArray, List.set_cons_zero, List.set_cons_succ]
              refine h_pure 18 ({ dst := some 135, op := Op.move (Operand.tmp 7), type := 22, pos := "law.go:107", after := #[{ on := 15, ground := Ground.guard }], guard := some (15, true) } : Oper) (.slice A7 (els A 4096).length c7) (by kernel_rfl) rfl (by kernel_rfl) (by kernel_rfl) (fun _ _ _ h => h) rfl (y_move rfl rfl) hS3 ?_
              simp only [Act.put, List.setIfInBounds_toArray, List.set_cons_zero, List.set_cons_succ]
              refine h_call 17 ({ dst := some 134, op := Op.call { callee := Callee.value (Operand.func 35), args := #[Operand.tmp 133], argTypes := #[27] }, type := 22, pos := "law.go:107", after := #[{ on := 16, ground := Ground.data }, { on := 15, ground := Ground.chain }, { on := 15, ground := Ground.guard }], guard := some (15, true) } : Oper) (args := #[.agg (ofF (wd A))]) (fun v w1 => ∃ Ax cx, v = .slice Ax (els A 4096).length cx ∧ Ints w1 Ax (els A 4096) ∧ Below vw3.heap.size vw3 w1) own35 rfl rfl (by kernel_rfl) rfl rfl (list_call A _ (HTc.out _ hS3)) ?_
              rintro _ vw4 ⟨AX, cX, rfl, hIX, hb4⟩
              have hS4 := hS3.trans hb4
              refine ⟨hS4, ?_⟩
              simp only [Act.put, List.setIfInBounds_toArray, List.set_cons_zero, List.set_cons_succ]
              refine h_callv 19 ({ dst := some 136, op := Op.call { callee := Callee.value (Operand.func 36), args := #[Operand.tmp 134, Operand.tmp 135], argTypes := #[22, 22] }, type := 4, pos := "law.go:107", after := #[{ on := 17, ground := Ground.data }, { on := 18, ground := Ground.data }, { on := 17, ground := Ground.chain }, { on := 15, ground := Ground.guard }], guard := some (15, true) } : Oper) (args := #[.slice AX (els A 4096).length cX, .slice A7 (els A 4096).length c7]) (v := .bool true) own36 rfl rfl (by kernel_rfl) rfl rfl hS4 (same_self AX A7 cX c7 (els A 4096) _ (by have := els_len A 4096; omega) hIX (hI7.below hS4)) ?_
              intro vw5 hb5 hS5
              simp only [Act.put, List.setIfInBounds_toArray, List.set_cons_zero, List.set_cons_succ]
              refine h_pure 20 ({ dst := some 137, op := Op.pick (Operand.tmp 132) (Operand.tmp 136) (Operand.const (Value.bool false)), type := 4, pos := "law.go:107", after := #[{ on := 15, ground := Ground.data }, { on := 19, ground := Ground.data }], guard := none } : Oper) (.bool true) (by kernel_rfl) rfl (by kernel_rfl) (by kernel_rfl) (fun _ _ _ h => h) rfl (y_pick rfl rfl rfl) hS5 ?_
              simp only [Act.put, List.setIfInBounds_toArray, List.set_cons_zero, List.set_cons_succ]
              refine h_pure 21 ({ dst := some 138, op := Op.move (Operand.tmp 137), type := 4, pos := "law.go:107", after := #[{ on := 20, ground := Ground.data }, { on := 19, ground := Ground.chain }], guard := none } : Oper) (.bool true) (by kernel_rfl) rfl (by kernel_rfl) (by kernel_rfl) (fun _ _ _ h => h) rfl (y_move rfl rfl) hS5 ?_
              simp only [Act.put, List.setIfInBounds_toArray, List.set_cons_zero, List.set_cons_succ]
              refine h_pure 22 ({ dst := some 139, op := Op.load 27 (Operand.tmp 11), type := 27, pos := "law.go:107", after := #[{ on := 21, ground := Ground.guard }], guard := some (21, true) } : Oper) (.agg (ofF (wd (addI A n)))) (by kernel_rfl) rfl (by kernel_rfl) (by kernel_rfl) (fun _ _ _ h => h) rfl (y_load (g := g11) (f := wd (addI A n)) rfl rfl (load_blk b11 l11)) hS5 ?_
              simp only [Act.put, List.setIfInBounds_toArray, List.set_cons_zero, List.set_cons_succ]
              refine h_pure 23 ({ dst := some 140, op := Op.move (Operand.tmp 1), type := 3, pos := "law.go:107", after := #[{ on := 21, ground := Ground.guard }], guard := some (21, true) } : Oper) (.int .i64 n) (by kernel_rfl) rfl (by kernel_rfl) (by kernel_rfl) (fun _ _ _ h => h) rfl (y_move rfl rfl) hS5 ?_
              simp only [Act.put, List.setIfInBounds_toArray, List.set_cons_zero, List.set_cons_succ]
              refine h_pure 25 ({ dst := some 142, op := Op.move (Operand.tmp 1), type := 3, pos := "law.go:107", after := #[{ on := 21, ground := Ground.guard }], guard := some (21, true) } : Oper) (.int .i64 n) (by kernel_rfl) rfl (by kernel_rfl) (by kernel_rfl) (fun _ _ _ h => h) rfl (y_move rfl rfl) hS5 ?_
              simp only [Act.put, List.setIfInBounds_toArray, List.set_cons_zero, List.set_cons_succ]
              refine h_pure 26 ({ dst := some 143, op := Op.binOp BinOp.geq 3 (Operand.tmp 142) (Operand.const (Value.int IntKind.i64 0)) 3, type := 4, pos := "law.go:107", after := #[{ on := 25, ground := Ground.data }, { on := 21, ground := Ground.guard }], guard := some (21, true) } : Oper) (.bool false) (by kernel_rfl) rfl (by kernel_rfl) (by kernel_rfl) (fun _ _ _ h => h) rfl (y_geq (u := n) (v := (0 : Int)) (b := false) rfl rfl rfl (by first | (simp; done) | (simp; omega))) hS5 ?_
              simp only [Act.put, List.setIfInBounds_toArray, List.set_cons_zero, List.set_cons_succ]
              refine h_callv 24 ({ dst := some 141, op := Op.call { callee := Callee.value (Operand.func 17), args := #[Operand.tmp 139, Operand.tmp 140], argTypes := #[27, 3] }, type := 4, pos := "law.go:107", after := #[{ on := 22, ground := Ground.data }, { on := 23, ground := Ground.data }, { on := 21, ground := Ground.chain }, { on := 21, ground := Ground.guard }], guard := some (21, true) } : Oper) (args := #[.agg (ofF (wd (addI A n))), .int .i64 n]) (v := .bool false) own17 rfl rfl (by kernel_rfl) rfl rfl hS5 (HHb.out _) ?_
              intro vw6 hb6 hS6
              simp only [Act.put, List.setIfInBounds_toArray, List.set_cons_zero, List.set_cons_succ]
              refine h_pure 27 ({ dst := some 144, op := Op.move (Operand.tmp 143), type := 4, pos := "law.go:107", after := #[{ on := 26, ground := Ground.data }, { on := 24, ground := Ground.chain }, { on := 21, ground := Ground.guard }], guard := some (21, true) } : Oper) (.bool false) (by kernel_rfl) rfl (by kernel_rfl) (by kernel_rfl) (fun _ _ _ h => h) rfl (y_move rfl rfl) hS6 ?_
              simp only [Act.put, List.setIfInBounds_toArray, List.set_cons_zero, List.set_cons_succ]
              refine h_skip 28 ({ dst := some 145, op := Op.move (Operand.tmp 1), type := 3, pos := "law.go:107", after := #[{ on := 27, ground := Ground.guard }], guard := some (27, true) } : Oper) (by kernel_rfl) rfl (by kernel_rfl) (by kernel_rfl) (fun _ _ _ h => h) rfl hS6 ?_
              simp only [Act.put, List.setIfInBounds_toArray, List.set_cons_zero, List.set_cons_succ]
              refine h_skip 29 ({ dst := some 146, op := Op.binOp BinOp.lss 3 (Operand.tmp 145) (Operand.const (Value.int IntKind.i64 4096)) 3, type := 4, pos := "law.go:107", after := #[{ on := 28, ground := Ground.data }, { on := 27, ground := Ground.guard }], guard := some (27, true) } : Oper) (by kernel_rfl) rfl (by kernel_rfl) (by kernel_rfl) (fun _ _ _ h => h) rfl hS6 ?_
              simp only [Act.put, List.setIfInBounds_toArray, List.set_cons_zero, List.set_cons_succ]
              refine h_pure 30 ({ dst := some 147, op := Op.pick (Operand.tmp 144) (Operand.tmp 146) (Operand.const (Value.bool false)), type := 4, pos := "law.go:107", after := #[{ on := 27, ground := Ground.data }, { on := 29, ground := Ground.data }, { on := 21, ground := Ground.guard }], guard := some (21, true) } : Oper) (.bool false) (by kernel_rfl) rfl (by kernel_rfl) (by kernel_rfl) (fun _ _ _ h => h) rfl (y_pickF rfl rfl rfl) hS6 ?_
              simp only [Act.put, List.setIfInBounds_toArray, List.set_cons_zero, List.set_cons_succ]
              refine h_pure 31 ({ dst := some 148, op := Op.binOp BinOp.eql 4 (Operand.tmp 141) (Operand.tmp 147) 4, type := 4, pos := "law.go:107", after := #[{ on := 24, ground := Ground.data }, { on := 30, ground := Ground.data }, { on := 21, ground := Ground.guard }], guard := some (21, true) } : Oper) (.bool true) (by kernel_rfl) rfl (by kernel_rfl) (by kernel_rfl) (fun _ _ _ h => h) rfl (y_eqlB (u := false) (v := false) (b := true) rfl rfl rfl (rfl)) hS6 ?_
              simp only [Act.put, List.setIfInBounds_toArray, List.set_cons_zero, List.set_cons_succ]
              refine h_pure 32 ({ dst := some 149, op := Op.pick (Operand.tmp 138) (Operand.tmp 148) (Operand.const (Value.bool false)), type := 4, pos := "law.go:107", after := #[{ on := 21, ground := Ground.data }, { on := 31, ground := Ground.data }], guard := none } : Oper) (.bool true) (by kernel_rfl) rfl (by kernel_rfl) (by kernel_rfl) (fun _ _ _ h => h) rfl (y_pick rfl rfl rfl) hS6 ?_
              simp only [Act.put, List.setIfInBounds_toArray, List.set_cons_zero, List.set_cons_succ]
              refine h_pure 33 ({ dst := some 150, op := Op.move (Operand.tmp 149), type := 4, pos := "law.go:107", after := #[{ on := 32, ground := Ground.data }, { on := 27, ground := Ground.chain }], guard := none } : Oper) (.bool true) (by kernel_rfl) rfl (by kernel_rfl) (by kernel_rfl) (fun _ _ _ h => h) rfl (y_move rfl rfl) hS6 ?_
              simp only [Act.put, List.setIfInBounds_toArray, List.set_cons_zero, List.set_cons_succ]
              refine h_pure 34 ({ dst := some 151, op := Op.load 27 (Operand.tmp 12), type := 27, pos := "law.go:107", after := #[{ on := 33, ground := Ground.guard }], guard := some (33, true) } : Oper) (.agg (ofF (wd (delI A n)))) (by kernel_rfl) rfl (by kernel_rfl) (by kernel_rfl) (fun _ _ _ h => h) rfl (y_load (g := g12) (f := wd (delI A n)) rfl rfl (load_blk b12 l12)) hS6 ?_
              simp only [Act.put, List.setIfInBounds_toArray, List.set_cons_zero, List.set_cons_succ]
              refine h_pure 35 ({ dst := some 152, op := Op.move (Operand.tmp 1), type := 3, pos := "law.go:107", after := #[{ on := 33, ground := Ground.guard }], guard := some (33, true) } : Oper) (.int .i64 n) (by kernel_rfl) rfl (by kernel_rfl) (by kernel_rfl) (fun _ _ _ h => h) rfl (y_move rfl rfl) hS6 ?_
              simp only [Act.put, List.setIfInBounds_toArray, List.set_cons_zero, List.set_cons_succ]
              refine h_callv 36 ({ dst := some 153, op := Op.call { callee := Callee.value (Operand.func 17), args := #[Operand.tmp 151, Operand.tmp 152], argTypes := #[27, 3] }, type := 4, pos := "law.go:107", after := #[{ on := 34, ground := Ground.data }, { on := 35, ground := Ground.data }, { on := 33, ground := Ground.chain }, { on := 33, ground := Ground.guard }], guard := some (33, true) } : Oper) (args := #[.agg (ofF (wd (delI A n))), .int .i64 n]) (v := .bool false) own17 rfl rfl (by kernel_rfl) rfl rfl hS6 (HHc.out _) ?_
              intro vw7 hb7 hS7
              simp only [Act.put, List.setIfInBounds_toArray, List.set_cons_zero, List.set_cons_succ]
              refine h_pure 37 ({ dst := some 154, op := Op.unOp UnOp.not 4 (Operand.tmp 153), type := 4, pos := "law.go:107", after := #[{ on := 36, ground := Ground.data }, { on := 33, ground := Ground.guard }], guard := some (33, true) } : Oper) (.bool true) (by kernel_rfl) rfl (by kernel_rfl) (by kernel_rfl) (fun _ _ _ h => h) rfl (y_not (u := false) (b := true) rfl rfl rfl) hS7 ?_
              simp only [Act.put, List.setIfInBounds_toArray, List.set_cons_zero, List.set_cons_succ]
              refine h_pure 38 ({ dst := some 155, op := Op.pick (Operand.tmp 150) (Operand.tmp 154) (Operand.const (Value.bool false)), type := 4, pos := "law.go:107", after := #[{ on := 33, ground := Ground.data }, { on := 37, ground := Ground.data }], guard := none } : Oper) (.bool true) (by kernel_rfl) rfl (by kernel_rfl) (by kernel_rfl) (fun _ _ _ h => h) rfl (y_pick rfl rfl rfl) hS7 ?_
              simp only [Act.put, List.setIfInBounds_toArray, List.set_cons_zero, List.set_cons_succ]
              refine h_pure 39 ({ dst := some 156, op := Op.move (Operand.tmp 155), type := 4, pos := "law.go:107", after := #[{ on := 38, ground := Ground.data }, { on := 36, ground := Ground.chain }], guard := none } : Oper) (.bool true) (by kernel_rfl) rfl (by kernel_rfl) (by kernel_rfl) (fun _ _ _ h => h) rfl (y_move rfl rfl) hS7 ?_
              simp only [Act.put, List.setIfInBounds_toArray, List.set_cons_zero, List.set_cons_succ]
              refine h_pure 40 ({ dst := some 157, op := Op.load 27 (Operand.tmp 12), type := 27, pos := "law.go:107", after := #[{ on := 39, ground := Ground.guard }], guard := some (39, true) } : Oper) (.agg (ofF (wd (delI A n)))) (by kernel_rfl) rfl (by kernel_rfl) (by kernel_rfl) (fun _ _ _ h => h) rfl (y_load (g := g12) (f := wd (delI A n)) rfl rfl (load_blk b12 l12)) hS7 ?_
              simp only [Act.put, List.setIfInBounds_toArray, List.set_cons_zero, List.set_cons_succ]
              refine h_pure 41 ({ dst := some 158, op := Op.load 27 (Operand.tmp 6), type := 27, pos := "law.go:107", after := #[{ on := 39, ground := Ground.guard }], guard := some (39, true) } : Oper) (.agg (ofF (wd A))) (by kernel_rfl) rfl (by kernel_rfl) (by kernel_rfl) (fun _ _ _ h => h) rfl (y_load (g := g6) (f := wd A) rfl rfl (load_blk b6 l6)) hS7 ?_
              simp only [Act.put, List.setIfInBounds_toArray, List.set_cons_zero, List.set_cons_succ]
              refine h_callv 42 ({ dst := some 159, op := Op.call { callee := Callee.value (Operand.func 32), args := #[Operand.tmp 157, Operand.tmp 158], argTypes := #[27, 27] }, type := 4, pos := "law.go:107", after := #[{ on := 40, ground := Ground.data }, { on := 41, ground := Ground.data }, { on := 39, ground := Ground.chain }, { on := 39, ground := Ground.guard }], guard := some (39, true) } : Oper) (args := #[.agg (ofF (wd (delI A n))), .agg (ofF (wd A))]) (v := .bool true) own32 rfl rfl (by kernel_rfl) rfl rfl hS7 (within_true (small_delI hA n) hA (del_within A n) _) ?_
              intro vw8 hb8 hS8
              simp only [Act.put, List.setIfInBounds_toArray, List.set_cons_zero, List.set_cons_succ]
              refine h_pure 43 ({ dst := some 160, op := Op.pick (Operand.tmp 156) (Operand.tmp 159) (Operand.const (Value.bool false)), type := 4, pos := "law.go:107", after := #[{ on := 39, ground := Ground.data }, { on := 42, ground := Ground.data }], guard := none } : Oper) (.bool true) (by kernel_rfl) rfl (by kernel_rfl) (by kernel_rfl) (fun _ _ _ h => h) rfl (y_pick rfl rfl rfl) hS8 ?_
              simp only [Act.put, List.setIfInBounds_toArray, List.set_cons_zero, List.set_cons_succ]
              refine h_pure 44 ({ dst := some 161, op := Op.move (Operand.tmp 160), type := 4, pos := "law.go:107", after := #[{ on := 43, ground := Ground.data }, { on := 42, ground := Ground.chain }], guard := none } : Oper) (.bool true) (by kernel_rfl) rfl (by kernel_rfl) (by kernel_rfl) (fun _ _ _ h => h) rfl (y_move rfl rfl) hS8 ?_
              simp only [Act.put, List.setIfInBounds_toArray, List.set_cons_zero, List.set_cons_succ]
              refine h_pure 45 ({ dst := some 162, op := Op.load 27 (Operand.tmp 6), type := 27, pos := "law.go:107", after := #[{ on := 44, ground := Ground.guard }], guard := some (44, true) } : Oper) (.agg (ofF (wd A))) (by kernel_rfl) rfl (by kernel_rfl) (by kernel_rfl) (fun _ _ _ h => h) rfl (y_load (g := g6) (f := wd A) rfl rfl (load_blk b6 l6)) hS8 ?_
              simp only [Act.put, List.setIfInBounds_toArray, List.set_cons_zero, List.set_cons_succ]
              refine h_pure 46 ({ dst := some 163, op := Op.load 27 (Operand.tmp 11), type := 27, pos := "law.go:107", after := #[{ on := 44, ground := Ground.guard }], guard := some (44, true) } : Oper) (.agg (ofF (wd (addI A n)))) (by kernel_rfl) rfl (by kernel_rfl) (by kernel_rfl) (fun _ _ _ h => h) rfl (y_load (g := g11) (f := wd (addI A n)) rfl rfl (load_blk b11 l11)) hS8 ?_
              simp only [Act.put, List.setIfInBounds_toArray, List.set_cons_zero, List.set_cons_succ]
              refine h_callv 47 ({ dst := some 164, op := Op.call { callee := Callee.value (Operand.func 32), args := #[Operand.tmp 162, Operand.tmp 163], argTypes := #[27, 27] }, type := 4, pos := "law.go:107", after := #[{ on := 45, ground := Ground.data }, { on := 46, ground := Ground.data }, { on := 44, ground := Ground.chain }, { on := 44, ground := Ground.guard }], guard := some (44, true) } : Oper) (args := #[.agg (ofF (wd A)), .agg (ofF (wd (addI A n)))]) (v := .bool true) own32 rfl rfl (by kernel_rfl) rfl rfl hS8 (within_true hA (small_addI hA n) (add_within A n) _) ?_
              intro vw9 hb9 hS9
              simp only [Act.put, List.setIfInBounds_toArray, List.set_cons_zero, List.set_cons_succ]
              refine h_pure 48 ({ dst := some 165, op := Op.pick (Operand.tmp 161) (Operand.tmp 164) (Operand.const (Value.bool false)), type := 4, pos := "law.go:107", after := #[{ on := 44, ground := Ground.data }, { on := 47, ground := Ground.data }], guard := none } : Oper) (.bool true) (by kernel_rfl) rfl (by kernel_rfl) (by kernel_rfl) (fun _ _ _ h => h) rfl (y_pick rfl rfl rfl) hS9 ?_
              simp only [Act.put, List.setIfInBounds_toArray, List.set_cons_zero, List.set_cons_succ]
              refine h_pure 49 ({ dst := some 4, op := Op.assign (Operand.tmp 165), type := 4, pos := "law.go:107", after := #[{ on := 48, ground := Ground.data }, { on := 47, ground := Ground.chain }, { on := 0, ground := Ground.phase }, { on := 1, ground := Ground.phase }, { on := 2, ground := Ground.phase }, { on := 3, ground := Ground.phase }, { on := 4, ground := Ground.phase }, { on := 5, ground := Ground.phase }, { on := 6, ground := Ground.phase }, { on := 7, ground := Ground.phase }, { on := 8, ground := Ground.phase }, { on := 9, ground := Ground.phase }, { on := 10, ground := Ground.phase }, { on := 11, ground := Ground.phase }, { on := 12, ground := Ground.phase }, { on := 13, ground := Ground.phase }, { on := 14, ground := Ground.phase }, { on := 15, ground := Ground.phase }, { on := 16, ground := Ground.phase }, { on := 17, ground := Ground.phase }, { on := 18, ground := Ground.phase }, { on := 19, ground := Ground.phase }, { on := 20, ground := Ground.phase }, { on := 21, ground := Ground.phase }, { on := 22, ground := Ground.phase }, { on := 23, ground := Ground.phase }, { on := 24, ground := Ground.phase }, { on := 25, ground := Ground.phase }, { on := 26, ground := Ground.phase }, { on := 27, ground := Ground.phase }, { on := 28, ground := Ground.phase }, { on := 29, ground := Ground.phase }, { on := 30, ground := Ground.phase }, { on := 31, ground := Ground.phase }, { on := 32, ground := Ground.phase }, { on := 33, ground := Ground.phase }, { on := 34, ground := Ground.phase }, { on := 35, ground := Ground.phase }, { on := 36, ground := Ground.phase }, { on := 37, ground := Ground.phase }, { on := 38, ground := Ground.phase }, { on := 39, ground := Ground.phase }, { on := 40, ground := Ground.phase }, { on := 41, ground := Ground.phase }, { on := 42, ground := Ground.phase }, { on := 43, ground := Ground.phase }, { on := 44, ground := Ground.phase }, { on := 45, ground := Ground.phase }, { on := 46, ground := Ground.phase }, { on := 47, ground := Ground.phase }, { on := 48, ground := Ground.phase }], guard := none } : Oper) (.bool true) (by kernel_rfl) rfl (by kernel_rfl) (by kernel_rfl) (fun _ _ _ h => h) rfl (y_assign rfl rfl) hS9 ?_
              simp only [Act.put, List.setIfInBounds_toArray, List.set_cons_zero, List.set_cons_succ]
              refine wpAnyH_done (by kernel_rfl) ?_ _
              have hBz : Below w.heap.size w _ := bt hB20 hS9
              go_wp2
              go_ret
              exact ⟨rfl, hBz⟩

  · have hlz : 300 < (l1.length : Int) := by omega
    go_enter Tryd.func6, Tryd.ntmps6
    go_wp2_with (first
      | (go_at_call 9; refine (shown _ HT).mono ?_; rintro e w1 ⟨rfl, hb1⟩))
    go_ret
    exact ⟨rfl, hb1⟩
end Go.Proofs.YtabdhmfjbielaaaDoor
