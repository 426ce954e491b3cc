/- PROVED here: the law BitsHold returns true at any list and any number, where the library's tables are as its text lays them. No condition but those in each theorem's own head. -/
import Derived.Test.YtabdhmfjbielaaaDoorTc
namespace Go.Proofs.YtabdhmfjbielaaaDoor
open Go Go.RowKit
theorem inL_has (s : Nat) (n : Int) : inL (els s 4096) n = hasI s n := by
  unfold inL hasI
  rw [Bool.eq_iff_iff, decide_eq_true_eq, els_mem, Bool.and_eq_true, decide_eq_true_eq]
  constructor
  · rintro ⟨j, rfl, h1, h2⟩; exact ⟨by omega, by simpa using h2⟩
  · rintro ⟨h1, h2⟩; exact ⟨n.toNat, by omega, by omega, h2⟩
theorem wo_els (s M : Nat) (n : Int) : wo n (els s M) = ((List.range M).filter fun j => s.testBit j && decide ((j : Int) ≠ n)).map Int.ofNat := by
  unfold wo
  have e : els s M = ((List.range M).filter s.testBit).map Int.ofNat := rfl
  rw [e, List.filter_map, List.filter_filter]
  congr 1
  refine List.filter_congr fun j _ => ?_
  simp only [Function.comp]
  rw [Bool.and_comm]; rfl
theorem wo_del (s M : Nat) (n : Int) (hM : M ≤ 4096) : wo n (els s M) = els (delI s n) M := by
  rw [wo_els]; unfold els; congr 1
  refine List.filter_congr fun j hj => ?_
  have hj' : j < M := by simpa using hj
  unfold delI
  by_cases h : 0 ≤ n ∧ n < 4096
  · rw [if_pos h, minus_bit, Nat.testBit_two_pow]
    by_cases e : n.toNat = j
    · have e2 : (j : Int) = n := by omega
      simp [e, e2]
    · have e2 : ¬ (j : Int) = n := by omega
      simp [e, e2]
  · rw [if_neg h]
    have e2 : ¬ (j : Int) = n := by omega
    simp [e2]
theorem first_next (s : Nat) (n : Int) : ∀ (M : Nat) (l : List Nat), l = (List.range M).filter s.testBit → ((l.map Int.ofNat).find? fun x => decide (n ≤ x)) = ((List.range M).find? fun j : Nat => decide (n ≤ (j : Int)) && s.testBit j).map Int.ofNat := by
  intro M l hl
  subst hl
  rw [List.find?_map, List.find?_filter]
  congr 2
  funext j
  simp only [Function.comp]
  rw [Bool.eq_iff_iff]; simp [and_comm]
theorem firstGe_next (s : Nat) (n : Int) : firstGe (els s 4096) n = nextF s n := by
  unfold firstGe nextF
  have h := first_next s n 4096 _ rfl
  have e : els s 4096 = ((List.range 4096).filter s.testBit).map Int.ofNat := rfl
  rw [e, h]
  cases (List.range 4096).find? (fun j : Nat => decide (n ≤ (j : Int)) && s.testBit j) <;> rfl
theorem RHas2 (s : Nat) (l : List Int) (H : Hid (els s 4096 = l)) (A : Option Addr) (c : Nat) (n : Int) (w : World) (hR : RL w A c l) :
    Calls Tryd.prog 18 #[.agg #[.slice A l.length c], .int .i64 n] w fun e w' => e = .returned (.bool (hasI s n)) ∧ Below w.heap.size w w' := by
  have h := RHas A c l n w (by rw [← H.out]; exact els_len s 4096) hR.1
  rwa [show inL l n = hasI s n by rw [← H.out, inL_has]] at h
theorem RNext2 (s : Nat) (l : List Int) (H : Hid (els s 4096 = l)) (A : Option Addr) (c : Nat) (n : Int) (w : World) (hR : RL w A c l) :
    Calls Tryd.prog 20 #[.agg #[.slice A l.length c], .int .i64 n] w fun e w' => e = .returned (.int .i64 (nextF s n)) ∧ Below w.heap.size w w' := by
  have h := RNext A c l n w (by rw [← H.out]; exact els_len s 4096) hR.1
  rwa [show firstGe l n = nextF s n by rw [← H.out, firstGe_next]] at h
theorem RWithout2 (s : Nat) (l : List Int) (H : Hid (els s 4096 = l)) (A : Option Addr) (c : Nat) (n : Int) (w : World) (hR : RL w A c l) :
    Calls Tryd.prog 16 #[.agg #[.slice A l.length c], .int .i64 n] w (RPost (els (delI s n) 4096) w) := by
  have h := RWithout A c l n w (by rw [← H.out]; exact els_len s 4096) hR.1
  rwa [show wo n l = els (delI s n) 4096 by rw [← H.out, wo_del s 4096 n (Nat.le_refl _)]] at h
theorem y_eql9 {S : World → Prop} {a : Act} {o : Oper} {x y : Operand} {s : ByteArray} (ho : o.op = .binOp .eql 9 x y 9) (hx : a.eval x = .string s) (hy : a.eval y = .string s) : ∀ w, S w → (execOp a.eval o).run Tryd.prog w = .ok (.value (.bool true)) w :=
  y_bin ho hx hy (fun w => by rw [eqGuard_at_string]; rfl) (fun w => run_eql9 s w)

set_option maxRecDepth 100000 in
set_option maxHeartbeats 8000000 in
theorem bitsHold_any (P1 : Option Addr) (c1 : Nat) (l1 : List Int) (n : Int) (w : World) (hT : Tabs w) (hi1 : Ints w P1 l1) :
    Calls Tryd.prog 3 #[.slice P1 l1.length c1, .int .i64 n] w fun e w' => e = .returned (.bool true) ∧ Below w.heap.size w w' := by
  have HT := Lib.hid (fun w' (hb : Below w.heap.size w w') => hT.below hb)
  have HI1 := Lib.hid hi1
  clear hT hi1
  by_cases hl1 : 300 < l1.length
  · have hlz : (300 : Int) < (l1.length : Int) := by omega
    go_enter Tryd.func3, Tryd.ntmps3
    go_wp2_with (go_at_call 9; refine (shown _ HT).mono ?_; rintro e w1 ⟨rfl, hb1⟩)
    go_ret
    exact ⟨rfl, hb1⟩
  · have hlz : ¬ (300 : Int) < (l1.length : Int) := by omega
    go_enter Tryd.func3, Tryd.ntmps3
    go_upto_region 4 with (go_at_call 9; refine (shown _ HT).mono ?_; rintro e w1 ⟨rfl, hb1⟩)
    go_upto_region 5 with (first
      | (go_at_call 10; refine (Of P1 c1 l1 _ (by omega) (HI1.out.below hb1)).mono ?_; rintro e w3 ⟨rfl, hb3⟩)
      | ((with_reducible apply alloc_store); (exact rfl); (exact rfl); intro w6 hb4 l7' b7'; simp only [Act.put, List.setIfInBounds_toArray, List.set_cons_zero, List.set_cons_succ]))
    have hB6 : Below w.heap.size w w6 := bt hb1 (bt hb3 hb4)
    generalize w3.heap.size = g6 at *
    clear hb1 hb3 hb4
    go_upto_region 6 with (go_at_call 11; refine (ROf P1 c1 l1 _ (by omega) (HI1.out.below hB6)).mono ?_; rintro e w7 ⟨X, cx, rfl, hRX, hb7⟩)
    generalize HXe : els (ofL l1) 4096 = lx at *
    have HX := Lib.hid HXe
    clear HXe
    refine gen_world (fun w8 => Below w6.heap.size w6 w8 ∧ Blk1 w8 w7.heap.size (.slice X lx.length cx) ∧ RL w8 X cx lx) ⟨bt hb7 (heap1 w7 _), heap_alloc_new w7 _, hRX.alloc _⟩ ?_
    rintro w10 ⟨hb8, b7, hX0⟩
    have hB : Below w.heap.size w w10 := bt hB6 hb8
    have b6 := blk_below b7' l7' hb8
    have l6 := Nat.lt_of_lt_of_le l7' hb8.size
    generalize w7.heap.size = g7 at *
    clear hb7 hb8 hRX b7' l7' hB6
    have hA := small_ofL l1
    generalize ofL l1 = A at *
    clear HI1
    have x7 := b7.cell
    go_upto_region 7 with (first
      | ((with_reducible apply load_lit); (exact rfl); assumption)
      | (go_at_call 12; refine (RAlike A lx HX X cx _ (HT.out _ hB) hX0).mono ?_; rintro e w11 ⟨rfl, hSs⟩))
    clear x7
    refine h_regionC (w0 := w10) hSs ?_
    intro hSp0
    refine h_pure 0 ({ dst := some 27, op := Op.load 27 (Operand.tmp 6), type := 27, pos := "law.go:48", after := #[], guard := none } : Oper) (.agg (ofF (wd A))) (by kernel_rfl) rfl (by kernel_rfl) (by kernel_rfl) (fun _ _ _ h => h) rfl (y_load (g := g6) (f := wd A) rfl rfl (load_blk b6 l6)) hSp0 ?_
    simp only [Act.put, List.setIfInBounds_toArray, List.set_cons_zero, List.set_cons_succ]
    refine h_pure 1 ({ dst := some 28, op := Op.move (Operand.tmp 1), type := 3, pos := "law.go:48", after := #[], guard := none } : Oper) (.int .i64 n) (by kernel_rfl) rfl (by kernel_rfl) (by kernel_rfl) (fun _ _ _ h => h) rfl (y_move rfl rfl) hSp0 ?_
    simp only [Act.put, List.setIfInBounds_toArray, List.set_cons_zero, List.set_cons_succ]
    refine h_pure 3 ({ dst := some 30, op := Op.load 30 (Operand.tmp 7), type := 30, pos := "law.go:48", after := #[], guard := none } : Oper) (.agg #[.slice X lx.length cx]) (by kernel_rfl) rfl (by kernel_rfl) (by kernel_rfl) (fun _ _ _ h => h) rfl (y_load30 (g := g7) rfl rfl (b7.bel b7.lt)) hSp0 ?_
    simp only [Act.put, List.setIfInBounds_toArray, List.set_cons_zero, List.set_cons_succ]
    refine h_pure 4 ({ dst := some 31, op := Op.move (Operand.tmp 1), type := 3, pos := "law.go:48", after := #[], guard := none } : Oper) (.int .i64 n) (by kernel_rfl) rfl (by kernel_rfl) (by kernel_rfl) (fun _ _ _ h => h) rfl (y_move rfl rfl) hSp0 ?_
    simp only [Act.put, List.setIfInBounds_toArray, List.set_cons_zero, List.set_cons_succ]
    refine h_callv 2 ({ dst := some 29, op := Op.call { callee := Callee.value (Operand.func 13), args := #[Operand.tmp 27, Operand.tmp 28], argTypes := #[27, 3] }, type := 27, pos := "law.go:48", after := #[{ on := 0, ground := Ground.data }, { on := 1, ground := Ground.data }], guard := none } : Oper) (args := #[.agg (ofF (wd A)), .int .i64 n]) (v := .agg (ofF (wd (addI A n)))) own13 rfl rfl (by kernel_rfl) rfl rfl hSp0 (With A n _) ?_
    intro wp1 hbp1 hSp1
    simp only [Act.put, List.setIfInBounds_toArray, List.set_cons_zero, List.set_cons_succ]
    refine h_callR 5 ({ dst := some 32, op := Op.call { callee := Callee.value (Operand.func 14), args := #[Operand.tmp 30, Operand.tmp 31], argTypes := #[30, 3] }, type := 30, pos := "law.go:48", after := #[{ on := 3, ground := Ground.data }, { on := 4, ground := Ground.data }, { on := 2, ground := Ground.chain }], guard := none } : Oper) (args := #[.agg #[.slice X lx.length cx], .int .i64 n]) (l := els (addI A n) 4096) own14 rfl rfl (by kernel_rfl) rfl rfl hSp1 (RWith A lx HX X cx n _ (hX0.cl hSp1)) ?_
    intro Ap2 cp2 wp2 hRp2 hSp2
    simp only [Act.put, List.setIfInBounds_toArray, List.set_cons_zero, List.set_cons_succ]
    refine h_callv 6 ({ dst := some 33, op := Op.call { callee := Callee.value (Operand.func 12), args := #[Operand.tmp 29, Operand.tmp 32], argTypes := #[27, 30] }, type := 4, pos := "law.go:48", after := #[{ on := 2, ground := Ground.data }, { on := 5, ground := Ground.data }, { on := 5, ground := Ground.chain }], guard := none } : Oper) (args := #[.agg (ofF (wd (addI A n))), .agg #[.slice Ap2 (els (addI A n) 4096).length cp2]]) (v := .bool true) own12 rfl rfl (by kernel_rfl) rfl rfl hSp2 (RAlike (addI A n) _ (Lib.hid rfl) Ap2 cp2 _ (HT.out _ (Cl.trans (w := w) hB hSp2)) hRp2) ?_
    intro wp3 hbp3 hSp3
    simp only [Act.put, List.setIfInBounds_toArray, List.set_cons_zero, List.set_cons_succ]
    refine h_pure 7 ({ dst := some 9, op := Op.assign (Operand.tmp 33), type := 4, pos := "law.go:48", after := #[{ on := 6, ground := Ground.data }, { on := 6, ground := Ground.chain }, { on := 0, ground := Ground.phase }, { on := 1, ground := Ground.phase }, { on := 2, ground := Ground.phase }, { on := 3, ground := Ground.phase }, { on := 4, ground := Ground.phase }, { on := 5, ground := Ground.phase }, { on := 6, ground := Ground.phase }], guard := none } : Oper) (.bool true) (by kernel_rfl) rfl (by kernel_rfl) (by kernel_rfl) (fun _ _ _ h => h) rfl (y_assign rfl rfl) hSp3 ?_
    simp only [Act.put, List.setIfInBounds_toArray, List.set_cons_zero, List.set_cons_succ]
    refine wpAnyH_done (by kernel_rfl) ?_ _
    go_upto_region 8 with fail
    refine h_regionC (w0 := w10) hSp3 ?_
    intro hSq0
    refine h_pure 0 ({ dst := some 34, op := Op.load 27 (Operand.tmp 6), type := 27, pos := "law.go:49", after := #[], guard := none } : Oper) (.agg (ofF (wd A))) (by kernel_rfl) rfl (by kernel_rfl) (by kernel_rfl) (fun _ _ _ h => h) rfl (y_load (g := g6) (f := wd A) rfl rfl (load_blk b6 l6)) hSq0 ?_
    simp only [Act.put, List.setIfInBounds_toArray, List.set_cons_zero, List.set_cons_succ]
    refine h_pure 1 ({ dst := some 35, op := Op.move (Operand.tmp 1), type := 3, pos := "law.go:49", after := #[], guard := none } : Oper) (.int .i64 n) (by kernel_rfl) rfl (by kernel_rfl) (by kernel_rfl) (fun _ _ _ h => h) rfl (y_move rfl rfl) hSq0 ?_
    simp only [Act.put, List.setIfInBounds_toArray, List.set_cons_zero, List.set_cons_succ]
    refine h_pure 3 ({ dst := some 37, op := Op.load 30 (Operand.tmp 7), type := 30, pos := "law.go:49", after := #[], guard := none } : Oper) (.agg #[.slice X lx.length cx]) (by kernel_rfl) rfl (by kernel_rfl) (by kernel_rfl) (fun _ _ _ h => h) rfl (y_load30 (g := g7) rfl rfl (b7.bel b7.lt)) hSq0 ?_
    simp only [Act.put, List.setIfInBounds_toArray, List.set_cons_zero, List.set_cons_succ]
    refine h_pure 4 ({ dst := some 38, op := Op.move (Operand.tmp 1), type := 3, pos := "law.go:49", after := #[], guard := none } : Oper) (.int .i64 n) (by kernel_rfl) rfl (by kernel_rfl) (by kernel_rfl) (fun _ _ _ h => h) rfl (y_move rfl rfl) hSq0 ?_
    simp only [Act.put, List.setIfInBounds_toArray, List.set_cons_zero, List.set_cons_succ]
    refine h_callv 2 ({ dst := some 36, op := Op.call { callee := Callee.value (Operand.func 15), args := #[Operand.tmp 34, Operand.tmp 35], argTypes := #[27, 3] }, type := 27, pos := "law.go:49", after := #[{ on := 0, ground := Ground.data }, { on := 1, ground := Ground.data }], guard := none } : Oper) (args := #[.agg (ofF (wd A)), .int .i64 n]) (v := .agg (ofF (wd (delI A n)))) own15 rfl rfl (by kernel_rfl) rfl rfl hSq0 (Without A n _) ?_
    intro wq1 hbq1 hSq1
    simp only [Act.put, List.setIfInBounds_toArray, List.set_cons_zero, List.set_cons_succ]
    refine h_callR 5 ({ dst := some 39, op := Op.call { callee := Callee.value (Operand.func 16), args := #[Operand.tmp 37, Operand.tmp 38], argTypes := #[30, 3] }, type := 30, pos := "law.go:49", after := #[{ on := 3, ground := Ground.data }, { on := 4, ground := Ground.data }, { on := 2, ground := Ground.chain }], guard := none } : Oper) (args := #[.agg #[.slice X lx.length cx], .int .i64 n]) (l := els (delI A n) 4096) own16 rfl rfl (by kernel_rfl) rfl rfl hSq1 (RWithout2 A lx HX X cx n _ (hX0.cl hSq1)) ?_
    intro Aq2 cq2 wq2 hRq2 hSq2
    simp only [Act.put, List.setIfInBounds_toArray, List.set_cons_zero, List.set_cons_succ]
    refine h_callv 6 ({ dst := some 40, op := Op.call { callee := Callee.value (Operand.func 12), args := #[Operand.tmp 36, Operand.tmp 39], argTypes := #[27, 30] }, type := 4, pos := "law.go:49", after := #[{ on := 2, ground := Ground.data }, { on := 5, ground := Ground.data }, { on := 5, ground := Ground.chain }], guard := none } : Oper) (args := #[.agg (ofF (wd (delI A n))), .agg #[.slice Aq2 (els (delI A n) 4096).length cq2]]) (v := .bool true) own12 rfl rfl (by kernel_rfl) rfl rfl hSq2 (RAlike (delI A n) _ (Lib.hid rfl) Aq2 cq2 _ (HT.out _ (Cl.trans (w := w) hB hSq2)) hRq2) ?_
    intro wq3 hbq3 hSq3
    simp only [Act.put, List.setIfInBounds_toArray, List.set_cons_zero, List.set_cons_succ]
    refine h_pure 7 ({ dst := some 10, op := Op.assign (Operand.tmp 40), type := 4, pos := "law.go:49", after := #[{ on := 6, ground := Ground.data }, { on := 6, ground := Ground.chain }, { on := 0, ground := Ground.phase }, { on := 1, ground := Ground.phase }, { on := 2, ground := Ground.phase }, { on := 3, ground := Ground.phase }, { on := 4, ground := Ground.phase }, { on := 5, ground := Ground.phase }, { on := 6, ground := Ground.phase }], guard := none } : Oper) (.bool true) (by kernel_rfl) rfl (by kernel_rfl) (by kernel_rfl) (fun _ _ _ h => h) rfl (y_assign rfl rfl) hSq3 ?_
    simp only [Act.put, List.setIfInBounds_toArray, List.set_cons_zero, List.set_cons_succ]
    refine wpAnyH_done (by kernel_rfl) ?_ _
    go_upto_region 9 with fail
    refine h_regionC (w0 := w10) hSq3 ?_
    intro hSr0
    refine h_pure 0 ({ dst := some 41, op := Op.move (Operand.tmp 8), type := 4, pos := "law.go:50", after := #[], guard := none } : Oper) (.bool true) (by kernel_rfl) rfl (by kernel_rfl) (by kernel_rfl) (fun _ _ _ h => h) rfl (y_move rfl rfl) hSr0 ?_
    simp only [Act.put, List.setIfInBounds_toArray, List.set_cons_zero, List.set_cons_succ]
    refine h_pure 1 ({ dst := some 42, op := Op.move (Operand.tmp 41), type := 4, pos := "law.go:50", after := #[{ on := 0, ground := Ground.data }], guard := none } : Oper) (.bool true) (by kernel_rfl) rfl (by kernel_rfl) (by kernel_rfl) (fun _ _ _ h => h) rfl (y_move rfl rfl) hSr0 ?_
    simp only [Act.put, List.setIfInBounds_toArray, List.set_cons_zero, List.set_cons_succ]
    refine h_pure 2 ({ dst := some 43, op := Op.move (Operand.tmp 9), type := 4, pos := "law.go:50", after := #[{ on := 1, ground := Ground.guard }], guard := some (1, true) } : Oper) (.bool true) (by kernel_rfl) rfl (by kernel_rfl) (by kernel_rfl) (fun _ _ _ h => h) rfl (y_move rfl rfl) hSr0 ?_
    simp only [Act.put, List.setIfInBounds_toArray, List.set_cons_zero, List.set_cons_succ]
    refine h_pure 3 ({ dst := some 44, op := Op.pick (Operand.tmp 42) (Operand.tmp 43) (Operand.const (Value.bool false)), type := 4, pos := "law.go:50", after := #[{ on := 1, ground := Ground.data }, { on := 2, ground := Ground.data }], guard := none } : Oper) (.bool true) (by kernel_rfl) rfl (by kernel_rfl) (by kernel_rfl) (fun _ _ _ h => h) rfl (y_pick rfl rfl rfl) hSr0 ?_
    simp only [Act.put, List.setIfInBounds_toArray, List.set_cons_zero, List.set_cons_succ]
    refine h_pure 4 ({ dst := some 45, op := Op.move (Operand.tmp 44), type := 4, pos := "law.go:50", after := #[{ on := 3, ground := Ground.data }, { on := 1, ground := Ground.chain }], guard := none } : Oper) (.bool true) (by kernel_rfl) rfl (by kernel_rfl) (by kernel_rfl) (fun _ _ _ h => h) rfl (y_move rfl rfl) hSr0 ?_
    simp only [Act.put, List.setIfInBounds_toArray, List.set_cons_zero, List.set_cons_succ]
    refine h_pure 5 ({ dst := some 46, op := Op.move (Operand.tmp 10), type := 4, pos := "law.go:50", after := #[{ on := 4, ground := Ground.guard }], guard := some (4, true) } : Oper) (.bool true) (by kernel_rfl) rfl (by kernel_rfl) (by kernel_rfl) (fun _ _ _ h => h) rfl (y_move rfl rfl) hSr0 ?_
    simp only [Act.put, List.setIfInBounds_toArray, List.set_cons_zero, List.set_cons_succ]
    refine h_pure 6 ({ dst := some 47, op := Op.pick (Operand.tmp 45) (Operand.tmp 46) (Operand.const (Value.bool false)), type := 4, pos := "law.go:50", after := #[{ on := 4, ground := Ground.data }, { on := 5, ground := Ground.data }], guard := none } : Oper) (.bool true) (by kernel_rfl) rfl (by kernel_rfl) (by kernel_rfl) (fun _ _ _ h => h) rfl (y_pick rfl rfl rfl) hSr0 ?_
    simp only [Act.put, List.setIfInBounds_toArray, List.set_cons_zero, List.set_cons_succ]
    refine h_pure 7 ({ dst := some 48, op := Op.move (Operand.tmp 47), type := 4, pos := "law.go:50", after := #[{ on := 6, ground := Ground.data }, { on := 4, ground := Ground.chain }], guard := none } : Oper) (.bool true) (by kernel_rfl) rfl (by kernel_rfl) (by kernel_rfl) (fun _ _ _ h => h) rfl (y_move rfl rfl) hSr0 ?_
    simp only [Act.put, List.setIfInBounds_toArray, List.set_cons_zero, List.set_cons_succ]
    refine h_pure 8 ({ dst := some 49, op := Op.load 27 (Operand.tmp 6), type := 27, pos := "law.go:50", after := #[{ on := 7, ground := Ground.guard }], guard := some (7, true) } : Oper) (.agg (ofF (wd A))) (by kernel_rfl) rfl (by kernel_rfl) (by kernel_rfl) (fun _ _ _ h => h) rfl (y_load (g := g6) (f := wd A) rfl rfl (load_blk b6 l6)) hSr0 ?_
    simp only [Act.put, List.setIfInBounds_toArray, List.set_cons_zero, List.set_cons_succ]
    refine h_pure 9 ({ dst := some 50, op := Op.move (Operand.tmp 1), type := 3, pos := "law.go:50", after := #[{ on := 7, ground := Ground.guard }], guard := some (7, true) } : Oper) (.int .i64 n) (by kernel_rfl) rfl (by kernel_rfl) (by kernel_rfl) (fun _ _ _ h => h) rfl (y_move rfl rfl) hSr0 ?_
    simp only [Act.put, List.setIfInBounds_toArray, List.set_cons_zero, List.set_cons_succ]
    refine h_pure 11 ({ dst := some 52, op := Op.load 30 (Operand.tmp 7), type := 30, pos := "law.go:50", after := #[{ on := 7, ground := Ground.guard }], guard := some (7, true) } : Oper) (.agg #[.slice X lx.length cx]) (by kernel_rfl) rfl (by kernel_rfl) (by kernel_rfl) (fun _ _ _ h => h) rfl (y_load30 (g := g7) rfl rfl (b7.bel b7.lt)) hSr0 ?_
    simp only [Act.put, List.setIfInBounds_toArray, List.set_cons_zero, List.set_cons_succ]
    refine h_pure 12 ({ dst := some 53, op := Op.move (Operand.tmp 1), type := 3, pos := "law.go:50", after := #[{ on := 7, ground := Ground.guard }], guard := some (7, true) } : Oper) (.int .i64 n) (by kernel_rfl) rfl (by kernel_rfl) (by kernel_rfl) (fun _ _ _ h => h) rfl (y_move rfl rfl) hSr0 ?_
    simp only [Act.put, List.setIfInBounds_toArray, List.set_cons_zero, List.set_cons_succ]
    refine h_callv 10 ({ dst := some 51, op := Op.call { callee := Callee.value (Operand.func 17), args := #[Operand.tmp 49, Operand.tmp 50], argTypes := #[27, 3] }, type := 4, pos := "law.go:50", after := #[{ on := 8, ground := Ground.data }, { on := 9, ground := Ground.data }, { on := 7, ground := Ground.chain }, { on := 7, ground := Ground.guard }], guard := some (7, true) } : Oper) (args := #[.agg (ofF (wd A)), .int .i64 n]) (v := .bool (hasI A n)) own17 rfl rfl (by kernel_rfl) rfl rfl hSr0 (Has A n _) ?_
    intro wr1 hbr1 hSr1
    simp only [Act.put, List.setIfInBounds_toArray, List.set_cons_zero, List.set_cons_succ]
    refine h_callv 13 ({ dst := some 54, op := Op.call { callee := Callee.value (Operand.func 18), args := #[Operand.tmp 52, Operand.tmp 53], argTypes := #[30, 3] }, type := 4, pos := "law.go:50", after := #[{ on := 11, ground := Ground.data }, { on := 12, ground := Ground.data }, { on := 10, ground := Ground.chain }, { on := 7, ground := Ground.guard }], guard := some (7, true) } : Oper) (args := #[.agg #[.slice X lx.length cx], .int .i64 n]) (v := .bool (hasI A n)) own18 rfl rfl (by kernel_rfl) rfl rfl hSr1 (RHas2 A lx HX X cx n _ (hX0.cl hSr1)) ?_
    intro wr2 hbr2 hSr2
    simp only [Act.put, List.setIfInBounds_toArray, List.set_cons_zero, List.set_cons_succ]
    refine h_pure 14 ({ dst := some 55, op := Op.binOp BinOp.eql 4 (Operand.tmp 51) (Operand.tmp 54) 4, type := 4, pos := "law.go:50", after := #[{ on := 10, ground := Ground.data }, { on := 13, ground := Ground.data }, { on := 7, ground := Ground.guard }], guard := some (7, true) } : Oper) (.bool true) (by kernel_rfl) rfl (by kernel_rfl) (by kernel_rfl) (fun _ _ _ h => h) rfl (y_eqlB rfl rfl rfl (by simp)) hSr2 ?_
    simp only [Act.put, List.setIfInBounds_toArray, List.set_cons_zero, List.set_cons_succ]
    refine h_pure 15 ({ dst := some 56, op := Op.pick (Operand.tmp 48) (Operand.tmp 55) (Operand.const (Value.bool false)), type := 4, pos := "law.go:50", after := #[{ on := 7, ground := Ground.data }, { on := 14, ground := Ground.data }], guard := none } : Oper) (.bool true) (by kernel_rfl) rfl (by kernel_rfl) (by kernel_rfl) (fun _ _ _ h => h) rfl (y_pick rfl rfl rfl) hSr2 ?_
    simp only [Act.put, List.setIfInBounds_toArray, List.set_cons_zero, List.set_cons_succ]
    refine h_pure 16 ({ dst := some 57, op := Op.move (Operand.tmp 56), type := 4, pos := "law.go:50", after := #[{ on := 15, ground := Ground.data }, { on := 13, ground := Ground.chain }], guard := none } : Oper) (.bool true) (by kernel_rfl) rfl (by kernel_rfl) (by kernel_rfl) (fun _ _ _ h => h) rfl (y_move rfl rfl) hSr2 ?_
    simp only [Act.put, List.setIfInBounds_toArray, List.set_cons_zero, List.set_cons_succ]
    refine h_pure 17 ({ dst := some 58, op := Op.load 27 (Operand.tmp 6), type := 27, pos := "law.go:50", after := #[{ on := 16, ground := Ground.guard }], guard := some (16, true) } : Oper) (.agg (ofF (wd A))) (by kernel_rfl) rfl (by kernel_rfl) (by kernel_rfl) (fun _ _ _ h => h) rfl (y_load (g := g6) (f := wd A) rfl rfl (load_blk b6 l6)) hSr2 ?_
    simp only [Act.put, List.setIfInBounds_toArray, List.set_cons_zero, List.set_cons_succ]
    refine h_pure 18 ({ dst := some 59, op := Op.move (Operand.tmp 1), type := 3, pos := "law.go:50", after := #[{ on := 16, ground := Ground.guard }], guard := some (16, true) } : Oper) (.int .i64 n) (by kernel_rfl) rfl (by kernel_rfl) (by kernel_rfl) (fun _ _ _ h => h) rfl (y_move rfl rfl) hSr2 ?_
    simp only [Act.put, List.setIfInBounds_toArray, List.set_cons_zero, List.set_cons_succ]
    refine h_pure 20 ({ dst := some 61, op := Op.load 30 (Operand.tmp 7), type := 30, pos := "law.go:50", after := #[{ on := 16, ground := Ground.guard }], guard := some (16, true) } : Oper) (.agg #[.slice X lx.length cx]) (by kernel_rfl) rfl (by kernel_rfl) (by kernel_rfl) (fun _ _ _ h => h) rfl (y_load30 (g := g7) rfl rfl (b7.bel b7.lt)) hSr2 ?_
    simp only [Act.put, List.setIfInBounds_toArray, List.set_cons_zero, List.set_cons_succ]
    refine h_pure 21 ({ dst := some 62, op := Op.move (Operand.tmp 1), type := 3, pos := "law.go:50", after := #[{ on := 16, ground := Ground.guard }], guard := some (16, true) } : Oper) (.int .i64 n) (by kernel_rfl) rfl (by kernel_rfl) (by kernel_rfl) (fun _ _ _ h => h) rfl (y_move rfl rfl) hSr2 ?_
    simp only [Act.put, List.setIfInBounds_toArray, List.set_cons_zero, List.set_cons_succ]
    refine h_callv 19 ({ dst := some 60, op := Op.call { callee := Callee.value (Operand.func 19), args := #[Operand.tmp 58, Operand.tmp 59], argTypes := #[27, 3] }, type := 3, pos := "law.go:50", after := #[{ on := 17, ground := Ground.data }, { on := 18, ground := Ground.data }, { on := 16, ground := Ground.chain }, { on := 16, ground := Ground.guard }], guard := some (16, true) } : Oper) (args := #[.agg (ofF (wd A)), .int .i64 n]) (v := .int .i64 (nextF A n)) own19 rfl rfl (by kernel_rfl) rfl rfl hSr2 (Next A n _ (HT.out _ (Cl.trans (w := w) hB hSr2))) ?_
    intro wr3 hbr3 hSr3
    simp only [Act.put, List.setIfInBounds_toArray, List.set_cons_zero, List.set_cons_succ]
    refine h_callv 22 ({ dst := some 63, op := Op.call { callee := Callee.value (Operand.func 20), args := #[Operand.tmp 61, Operand.tmp 62], argTypes := #[30, 3] }, type := 3, pos := "law.go:50", after := #[{ on := 20, ground := Ground.data }, { on := 21, ground := Ground.data }, { on := 19, ground := Ground.chain }, { on := 16, ground := Ground.guard }], guard := some (16, true) } : Oper) (args := #[.agg #[.slice X lx.length cx], .int .i64 n]) (v := .int .i64 (nextF A n)) own20 rfl rfl (by kernel_rfl) rfl rfl hSr3 (RNext2 A lx HX X cx n _ (hX0.cl hSr3)) ?_
    intro wr4 hbr4 hSr4
    simp only [Act.put, List.setIfInBounds_toArray, List.set_cons_zero, List.set_cons_succ]
    refine h_pure 23 ({ dst := some 64, op := Op.binOp BinOp.eql 3 (Operand.tmp 60) (Operand.tmp 63) 3, type := 4, pos := "law.go:50", after := #[{ on := 19, ground := Ground.data }, { on := 22, ground := Ground.data }, { on := 16, ground := Ground.guard }], guard := some (16, true) } : Oper) (.bool true) (by kernel_rfl) rfl (by kernel_rfl) (by kernel_rfl) (fun _ _ _ h => h) rfl (y_eqlI rfl rfl rfl (by simp)) hSr4 ?_
    simp only [Act.put, List.setIfInBounds_toArray, List.set_cons_zero, List.set_cons_succ]
    refine h_pure 24 ({ dst := some 65, op := Op.pick (Operand.tmp 57) (Operand.tmp 64) (Operand.const (Value.bool false)), type := 4, pos := "law.go:50", after := #[{ on := 16, ground := Ground.data }, { on := 23, ground := Ground.data }], guard := none } : Oper) (.bool true) (by kernel_rfl) rfl (by kernel_rfl) (by kernel_rfl) (fun _ _ _ h => h) rfl (y_pick rfl rfl rfl) hSr4 ?_
    simp only [Act.put, List.setIfInBounds_toArray, List.set_cons_zero, List.set_cons_succ]
    refine h_pure 25 ({ dst := some 66, op := Op.move (Operand.tmp 65), type := 4, pos := "law.go:50", after := #[{ on := 24, ground := Ground.data }, { on := 22, ground := Ground.chain }], guard := none } : Oper) (.bool true) (by kernel_rfl) rfl (by kernel_rfl) (by kernel_rfl) (fun _ _ _ h => h) rfl (y_move rfl rfl) hSr4 ?_
    simp only [Act.put, List.setIfInBounds_toArray, List.set_cons_zero, List.set_cons_succ]
    refine h_pure 26 ({ dst := some 67, op := Op.load 27 (Operand.tmp 6), type := 27, pos := "law.go:50", after := #[{ on := 25, ground := Ground.guard }], guard := some (25, true) } : Oper) (.agg (ofF (wd A))) (by kernel_rfl) rfl (by kernel_rfl) (by kernel_rfl) (fun _ _ _ h => h) rfl (y_load (g := g6) (f := wd A) rfl rfl (load_blk b6 l6)) hSr4 ?_
    simp only [Act.put, List.setIfInBounds_toArray, List.set_cons_zero, List.set_cons_succ]
    refine h_pure 28 ({ dst := some 69, op := Op.load 30 (Operand.tmp 7), type := 30, pos := "law.go:50", after := #[{ on := 25, ground := Ground.guard }], guard := some (25, true) } : Oper) (.agg #[.slice X lx.length cx]) (by kernel_rfl) rfl (by kernel_rfl) (by kernel_rfl) (fun _ _ _ h => h) rfl (y_load30 (g := g7) rfl rfl (b7.bel b7.lt)) hSr4 ?_
    simp only [Act.put, List.setIfInBounds_toArray, List.set_cons_zero, List.set_cons_succ]
    refine h_callv 27 ({ dst := some 68, op := Op.call { callee := Callee.value (Operand.func 21), args := #[Operand.tmp 67], argTypes := #[27] }, type := 9, pos := "law.go:50", after := #[{ on := 26, ground := Ground.data }, { on := 25, ground := Ground.chain }, { on := 25, ground := Ground.guard }], guard := some (25, true) } : Oper) (args := #[.agg (ofF (wd A))]) (v := .string (tx (textF A))) own21 rfl rfl (by kernel_rfl) rfl rfl hSr4 (Text A hA _ (HT.out _ (Cl.trans (w := w) hB hSr4))) ?_
    intro wr5 hbr5 hSr5
    simp only [Act.put, List.setIfInBounds_toArray, List.set_cons_zero, List.set_cons_succ]
    refine h_callv 29 ({ dst := some 70, op := Op.call { callee := Callee.value (Operand.func 22), args := #[Operand.tmp 69], argTypes := #[30] }, type := 9, pos := "law.go:50", after := #[{ on := 28, ground := Ground.data }, { on := 27, ground := Ground.chain }, { on := 25, ground := Ground.guard }], guard := some (25, true) } : Oper) (args := #[.agg #[.slice X lx.length cx]]) (v := .string (tx (textF A))) own22 rfl rfl (by kernel_rfl) rfl rfl hSr5 (RText A hA lx HX X cx _ (hX0.cl hSr5)) ?_
    intro wr6 hbr6 hSr6
    simp only [Act.put, List.setIfInBounds_toArray, List.set_cons_zero, List.set_cons_succ]
    refine h_pure 30 ({ dst := some 71, op := Op.binOp BinOp.eql 9 (Operand.tmp 68) (Operand.tmp 70) 9, type := 4, pos := "law.go:50", after := #[{ on := 27, ground := Ground.data }, { on := 29, ground := Ground.data }, { on := 25, ground := Ground.guard }], guard := some (25, true) } : Oper) (.bool true) (by kernel_rfl) rfl (by kernel_rfl) (by kernel_rfl) (fun _ _ _ h => h) rfl (y_eql9 rfl rfl rfl) hSr6 ?_
    simp only [Act.put, List.setIfInBounds_toArray, List.set_cons_zero, List.set_cons_succ]
    refine h_pure 31 ({ dst := some 72, op := Op.pick (Operand.tmp 66) (Operand.tmp 71) (Operand.const (Value.bool false)), type := 4, pos := "law.go:50", after := #[{ on := 25, ground := Ground.data }, { on := 30, ground := Ground.data }], guard := none } : Oper) (.bool true) (by kernel_rfl) rfl (by kernel_rfl) (by kernel_rfl) (fun _ _ _ h => h) rfl (y_pick rfl rfl rfl) hSr6 ?_
    simp only [Act.put, List.setIfInBounds_toArray, List.set_cons_zero, List.set_cons_succ]
    refine h_pure 32 ({ dst := some 4, op := Op.assign (Operand.tmp 72), type := 4, pos := "law.go:50", after := #[{ on := 31, ground := Ground.data }, { on := 29, ground := Ground.chain }, { on := 0, ground := Ground.phase }, { on := 1, ground := Ground.phase }, { on := 2, ground := Ground.phase }, { on := 3, ground := Ground.phase }, { on := 4, ground := Ground.phase }, { on := 5, ground := Ground.phase }, { on := 6, ground := Ground.phase }, { on := 7, ground := Ground.phase }, { on := 8, ground := Ground.phase }, { on := 9, ground := Ground.phase }, { on := 10, ground := Ground.phase }, { on := 11, ground := Ground.phase }, { on := 12, ground := Ground.phase }, { on := 13, ground := Ground.phase }, { on := 14, ground := Ground.phase }, { on := 15, ground := Ground.phase }, { on := 16, ground := Ground.phase }, { on := 17, ground := Ground.phase }, { on := 18, ground := Ground.phase }, { on := 19, ground := Ground.phase }, { on := 20, ground := Ground.phase }, { on := 21, ground := Ground.phase }, { on := 22, ground := Ground.phase }, { on := 23, ground := Ground.phase }, { on := 24, ground := Ground.phase }, { on := 25, ground := Ground.phase }, { on := 26, ground := Ground.phase }, { on := 27, ground := Ground.phase }, { on := 28, ground := Ground.phase }, { on := 29, ground := Ground.phase }, { on := 30, ground := Ground.phase }, { on := 31, ground := Ground.phase }], guard := none } : Oper) (.bool true) (by kernel_rfl) rfl (by kernel_rfl) (by kernel_rfl) (fun _ _ _ h => h) rfl (y_assign rfl rfl) hSr6 ?_
    simp only [Act.put, List.setIfInBounds_toArray, List.set_cons_zero, List.set_cons_succ]
    refine wpAnyH_done (by kernel_rfl) ?_ _
    have hB9 : Below w.heap.size w _ := Cl.trans (w := w) hB hSr6
    go_wp2
    go_ret
    exact ⟨rfl, hB9⟩
end Go.Proofs.YtabdhmfjbielaaaDoor
