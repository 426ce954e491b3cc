/- PROVED here: the contract of the document's own With over a list that rises. No condition but those in each theorem's own head. -/
import Derived.Test.YtabdhmfjbielaaaDoorRg
namespace Go.Proofs.YtabdhmfjbielaaaDoor
open Go Go.RowKit
theorem WS.drew {w w' : World} {v : Value} (h : WS w v w') : WS w v { w' with drawn := w'.drawn + 1 } := ⟨⟨h.1.os, h.1.tape, h.1.output, h.1.size, h.1.block⟩, h.2⟩
theorem o_store30 {ops : Array Oper} {Q : Exit → Act → World → Prop} {a : Act} {w : World} {o : Oper} {K : Act → World → Prop} {i g : Nat} {x y : Operand} {A : Option Addr} {n c : Nat} (hi : ops[i]? = some o) (hg : o.guard = none) (ho : o.op = .store 30 x y) (hx : a.eval x = .pointer (some ⟨g, 0, none⟩)) (hy : a.eval y = .agg #[.slice A n c]) (hb : ∃ u, Blk1 w g u)
    (h : K (a.put o.dst undef) (w.setCell ⟨g, 0, none⟩ (.slice A n c))) : wpOp Tryd.prog ops Q i K a w := by
  obtain ⟨u, hu⟩ := hb
  have hc := hu.cell
  have hf := hu.frozen
  have hr : (execOp a.eval o).run Tryd.prog w = .ok .skip (w.setCell ⟨g, 0, none⟩ (.slice A n c)) := by
    unfold execOp
    simp only [ho, hx, hy]
    simp [go_sem, hc, hf]
  unfold wpOp
  have hw : Region.wanted o (yielded ops a.tmps) = true := by simp [Region.wanted, hg]
  simp only [hi, hw, if_true, Oper.wp, hr, Oper.upon]
  exact .inl h
set_option maxRecDepth 100000 in
set_option maxHeartbeats 4000000 in
/-- a number is put in -/
theorem rwith_put (A : Option Addr) (c : Nat) (l l' : List Int) (n : Int) (w : World) (hR : RL w A c l) (hl : l.length ≤ 4096) (h0 : 0 ≤ n) (h1 : n < 4096) (hh : inL l n = false)
    (HA : Hid (∀ k, k ≤ l.length → (∀ j, j < k → l.getD j 0 < n) → (k < l.length → n ≤ l.getD k 0) → l.take k ++ [n] ++ l.drop k = l')) :
    Calls Tryd.prog 14 #[.agg #[.slice A l.length c], .int .i64 n] w (RPost l' w) := by
  have HR := Lib.hid hR
  have hc : l.length ≤ c := hR.2.1
  have hd : decide ((4096 : Int) ≤ n) = false := by simpa using h1
  have hHas := fun w hI => RHas A c l n w hl hI
  rw [hh] at hHas
  have HH := Lib.hid hHas
  clear hHas hh hR
  go_enter Tryd.func14, Tryd.ntmps14
  go_upto_region 1 with fail
  refine gen_world (fun w1 => Below w.heap.size w w1 ∧ w1.heap.size = w.heap.size + 2 ∧ Blk1 w1 w.heap.size (.slice A l.length c) ∧ Blk1 w1 (w.heap.size + 1) (.slice none 0 0)) ⟨below2 w _ _, by simp, heap_alloc2_old w _ _, heap_alloc2_new w _ _⟩ ?_
  rintro w1 ⟨hb, hz, b1, b2⟩
  have c1 := b1.cell
  go_upto_region 4 with (go_at_call 18; refine (HH.out _ (HR.out.1.below hb)).mono ?_; rintro e w2 ⟨rfl, hb2⟩)
  have hS : WS w (.slice A l.length c) w2 := ⟨Below.trans hb (hb2.mono hb.size), by have := hb2.size; omega, (hb2.block _ (by omega)).trans b1, _, (hb2.block _ (by omega)).trans b2⟩
  clear hb hz b1 b2 c1 hb2 HH
  have c2 := hS.cell
  go_loop [5] (fun i => ∃ k : Nat, k ≤ l.length ∧ i = .int .i64 k ∧ Hid (∀ j, j < k → l.getD j 0 < n)) (fun i => l.length - (intOf i).toNat)
  case atStart => exact ⟨0, by omega, rfl, Lib.hid (fun j h => by omega)⟩
  case round =>
    obtain ⟨k, hk, rfl, HN⟩ := hrel
    have hend : (k < l.length → n ≤ l.getD k 0) → Hid (l.take k ++ [n] ++ l.drop k = l') := fun h => Lib.hid (HA.out k hk HN.out h)
    by_cases hlt : k < l.length
    · have hlz : (k : Int) < (l.length : Int) := by omega
      obtain ⟨b, off, rfl, hbl, hcl⟩ := (HR.out.1.below hS.1) (by omega)
      have hck := hcl k hlt
      clear hcl
      by_cases he : l.getD k 0 < n
      · have HN2 := Lib.hid (fun j (hj : j < k + 1) => show l.getD j 0 < n by
          by_cases e : j = k
          · subst e; exact he
          · exact HN.out j (by omega))
        clear hend
        generalize l.getD k 0 = x at *
        have hq : decide (x < n) = true := by simpa using he
        go_wp2
        go_round
        case rel => exact ⟨k + 1, by omega, by go_num, HN2⟩
        case measure => simp [intOf]; omega
      · have HL := hend (fun _ => by omega)
        clear hend
        generalize l.getD k 0 = x at *
        have hq : decide (x < n) = false := by simpa using he
        go_upto_region 6 with fail
        have hkl : (l.take k).length = k := by simp; omega
        have hdl : (l.drop k).length = l.length - k := by simp
        refine wp_region_held (S := WS w (.slice (some ⟨b, off, none⟩) l.length c)) (by kernel_rfl) ?_
        have hS := hS.drew
        clear c2
        refine h_pure 1 ({ dst := some 35, op := Op.fieldAddr 30 (Operand.tmp 2) 0, type := 0, pos := "ref.go:30", after := #[], guard := none } : Oper) (.pointer (some ⟨w.heap.size, 0, none⟩)) (by kernel_rfl) rfl (by kernel_rfl) (by kernel_rfl) (fun _ _ _ h => h) rfl (y_field rfl rfl) hS ?_
        simp only [Act.put, List.setIfInBounds_toArray, List.set_cons_zero, List.set_cons_succ]
        refine h_pure 2 ({ dst := some 36, op := Op.load 22 (Operand.tmp 35), type := 22, pos := "ref.go:30", after := #[{ on := 1, ground := Ground.data }], guard := none } : Oper) (.slice (some ⟨b, off, none⟩) l.length c) (by kernel_rfl) rfl (by kernel_rfl) (by kernel_rfl) (fun _ _ _ h => h) rfl (y_load22 rfl rfl (fun _ h => WS.cell h)) hS ?_
        simp only [Act.put, List.setIfInBounds_toArray, List.set_cons_zero, List.set_cons_succ]
        refine h_pure 3 ({ dst := some 37, op := Op.move (Operand.tmp 5), type := 3, pos := "ref.go:30", after := #[], guard := none } : Oper) (.int .i64 (k : Int)) (by kernel_rfl) rfl (by kernel_rfl) (by kernel_rfl) (fun _ _ _ h => h) rfl (y_move rfl rfl) hS ?_
        simp only [Act.put, List.setIfInBounds_toArray, List.set_cons_zero, List.set_cons_succ]
        refine h_pure 4 ({ dst := some 38, op := Op.slice 22 (Operand.tmp 36) none (some (Operand.tmp 37)) none, type := 22, pos := "ref.go:30", after := #[{ on := 2, ground := Ground.data }, { on := 3, ground := Ground.data }], guard := none } : Oper) (.slice (some ⟨b, off, none⟩) k c) (by kernel_rfl) rfl (by kernel_rfl) (by kernel_rfl) (fun _ _ _ h => h) rfl (y_sliceH (n := l.length) (k := k) rfl rfl rfl (by omega)) hS ?_
        simp only [Act.put, List.setIfInBounds_toArray, List.set_cons_zero, List.set_cons_succ]
        refine h_pure 6 ({ dst := some 40, op := Op.move (Operand.tmp 1), type := 3, pos := "ref.go:30", after := #[], guard := none } : Oper) (.int .i64 n) (by kernel_rfl) rfl (by kernel_rfl) (by kernel_rfl) (fun _ _ _ h => h) rfl (y_move rfl rfl) hS ?_
        simp only [Act.put, List.setIfInBounds_toArray, List.set_cons_zero, List.set_cons_succ]
        refine h_pure 9 ({ dst := some 43, op := Op.fieldAddr 30 (Operand.tmp 2) 0, type := 0, pos := "ref.go:30", after := #[], guard := none } : Oper) (.pointer (some ⟨w.heap.size, 0, none⟩)) (by kernel_rfl) rfl (by kernel_rfl) (by kernel_rfl) (fun _ _ _ h => h) rfl (y_field rfl rfl) hS ?_
        simp only [Act.put, List.setIfInBounds_toArray, List.set_cons_zero, List.set_cons_succ]
        refine h_pure 10 ({ dst := some 44, op := Op.load 22 (Operand.tmp 43), type := 22, pos := "ref.go:30", after := #[{ on := 9, ground := Ground.data }], guard := none } : Oper) (.slice (some ⟨b, off, none⟩) l.length c) (by kernel_rfl) rfl (by kernel_rfl) (by kernel_rfl) (fun _ _ _ h => h) rfl (y_load22 rfl rfl (fun _ h => WS.cell h)) hS ?_
        simp only [Act.put, List.setIfInBounds_toArray, List.set_cons_zero, List.set_cons_succ]
        refine h_pure 11 ({ dst := some 45, op := Op.move (Operand.tmp 5), type := 3, pos := "ref.go:30", after := #[], guard := none } : Oper) (.int .i64 (k : Int)) (by kernel_rfl) rfl (by kernel_rfl) (by kernel_rfl) (fun _ _ _ h => h) rfl (y_move rfl rfl) hS ?_
        simp only [Act.put, List.setIfInBounds_toArray, List.set_cons_zero, List.set_cons_succ]
        refine h_pure 12 ({ dst := some 46, op := Op.slice 22 (Operand.tmp 44) (some (Operand.tmp 45)) none none, type := 22, pos := "ref.go:30", after := #[{ on := 10, ground := Ground.data }, { on := 11, ground := Ground.data }], guard := none } : Oper) (.slice (if c = k then some ⟨b, off, none⟩ else (some (⟨b, off, none⟩ : Addr)).map (·.add k)) (l.length - k) (c - k)) (by kernel_rfl) rfl (by kernel_rfl) (by kernel_rfl) (fun _ _ _ h => h) rfl (y_sliceL rfl rfl rfl (by omega)) hS ?_
        simp only [Act.put, List.setIfInBounds_toArray, List.set_cons_zero, List.set_cons_succ]
        refine h_fork (o0 := { dst := some 34, op := Op.buildSlice 22 0 #[], type := 22, pos := "ref.go:30", after := #[], guard := none }) (o5 := { dst := some 39, op := Op.call { callee := Callee.builtin Builtin.append, args := #[Operand.tmp 34, Operand.tmp 38], argTypes := #[22, 22] }, type := 22, pos := "ref.go:30", after := #[{ on := 0, ground := Ground.data }, { on := 4, ground := Ground.data }], guard := none }) (o7 := { dst := some 41, op := Op.buildSlice 22 1 #[(0, Operand.tmp 40)], type := 22, pos := "ref.go:30", after := #[{ on := 6, ground := Ground.data }], guard := none }) (s := .tmp 34) (x := .tmp 40) (y := .tmp 38) (A := some ⟨b, off, none⟩) (c := c) (l := l.take k) (n := n) rfl rfl rfl rfl rfl rfl rfl rfl rfl rfl rfl rfl (by kernel_rfl) (by kernel_rfl) (by kernel_rfl) (by kernel_rfl) (by kernel_rfl) rfl (fun _ => rfl) (fun _ _ => rfl) (fun _ => rfl) (fun _ _ => rfl) (fun _ => by rw [hkl]; rfl) (fun _ _ => by rw [hkl]; rfl) hS (by omega) (fun w' h => (HR.out.1.below h.1).take k) ?_
        intro u0 u5 A7 w3 own3 hI3 hS3
        simp only [Act.put, List.setIfInBounds_toArray, List.set_cons_zero, List.set_cons_succ]
        refine wpAnyH_all (rs := [8]) (by kernel_rfl) (by simp) fun i hi => ?_
        obtain rfl : i = 8 := by simpa using hi
        clear hi
        refine o_app (o := { dst := some 42, op := Op.call { callee := Callee.builtin Builtin.append, args := #[Operand.tmp 39, Operand.tmp 41], argTypes := #[22, 22] }, type := 22, pos := "ref.go:30", after := #[{ on := 5, ground := Ground.data }, { on := 7, ground := Ground.data }, { on := 5, ground := Ground.chain }], guard := none }) (s := .tmp 39) (x := .tmp 41) (m := [n]) (base := w.heap.size + 2) rfl rfl rfl rfl rfl own3 hI3 (by simp; omega) hS3.2.1 ?_
        intro u8 w4 own4 gr4 _
        have hS4 := hS3.grown gr4 (fun g hg => (own3.lt g hg).1)
        refine ⟨hS4, ?_⟩
        simp only [Act.put, List.setIfInBounds_toArray, List.set_cons_zero, List.set_cons_succ]
        refine wpAnyH_all (rs := [13]) (by kernel_rfl) (by simp) fun i hi => ?_
        obtain rfl : i = 13 := by simpa using hi
        clear hi
        refine o_app (o := { dst := some 47, op := Op.call { callee := Callee.builtin Builtin.append, args := #[Operand.tmp 42, Operand.tmp 46], argTypes := #[22, 22] }, type := 22, pos := "ref.go:30", after := #[{ on := 8, ground := Ground.data }, { on := 12, ground := Ground.data }, { on := 8, ground := Ground.chain }], guard := none }) (s := .tmp 42) (x := .tmp 46) (l := l.take k ++ [n]) (m := l.drop k) (A := if c = k then some ⟨b, off, none⟩ else (some (⟨b, off, none⟩ : Addr)).map (·.add k)) (c := c - k) (base := w.heap.size + 2) rfl rfl rfl rfl (by rw [hdl]; rfl) own4 ((HR.out.1.below hS4.1).drop HR.out.2.1 k) (by simp; omega) hS4.2.1 ?_
        intro u13 w5 own5 gr5 _
        have hS5 := hS4.grown gr5 (fun g hg => (own4.lt g hg).1)
        refine ⟨hS5, ?_⟩
        simp only [Act.put, List.setIfInBounds_toArray, List.set_cons_zero, List.set_cons_succ]
        rw [HL.out] at own5
        obtain ⟨A5, c5, rfl, hR5⟩ := own_RL own5
        have hbk : ∀ b off, A5 = some ⟨b, off, none⟩ → b ≠ w.heap.size + 1 := fun b off e => by have := (own5.lt b (by rw [e]; rfl)).1; omega
        have hS := hS5
        refine h_pure 14 ({ dst := some 48, op := Op.build 30 #[(0, Operand.tmp 47)], type := 30, pos := "ref.go:30", after := #[{ on := 13, ground := Ground.data }], guard := none } : Oper) (.agg #[.slice A5 l'.length c5]) (by kernel_rfl) rfl (by kernel_rfl) (by kernel_rfl) (fun _ _ _ h => h) rfl (y_build30 rfl rfl) hS ?_
        simp only [Act.put, List.setIfInBounds_toArray, List.set_cons_zero, List.set_cons_succ]
        refine wpAnyH_all (rs := [15]) (by kernel_rfl) (by simp) fun i hi => ?_
        obtain rfl : i = 15 := by simpa using hi
        clear hi
        refine o_store30 (o := { dst := none, op := Op.store 30 (Operand.tmp 4) (Operand.tmp 48), type := 0, pos := "ref.go:30", after := #[{ on := 14, ground := Ground.data }, { on := 13, ground := Ground.chain }, { on := 0, ground := Ground.phase }, { on := 1, ground := Ground.phase }, { on := 2, ground := Ground.phase }, { on := 3, ground := Ground.phase }, { on := 4, ground := Ground.phase }, { on := 5, ground := Ground.phase }, { on := 6, ground := Ground.phase }, { on := 7, ground := Ground.phase }, { on := 8, ground := Ground.phase }, { on := 9, ground := Ground.phase }, { on := 10, ground := Ground.phase }, { on := 11, ground := Ground.phase }, { on := 12, ground := Ground.phase }, { on := 13, ground := Ground.phase }, { on := 14, ground := Ground.phase }], guard := none }) (g := w.heap.size + 1) (x := .tmp 4) (y := .tmp 48) rfl rfl rfl rfl rfl hS5.2.2.2 ?_
        refine ⟨hS5.set_ _, ?_⟩
        simp only [Act.put]
        refine wpAnyH_done (by kernel_rfl) ?_ _
        obtain ⟨u, hu⟩ := hS5.2.2.2
        go_wp2
        all_goals exact ret30 rfl rfl rfl (hu.set_ _) ⟨A5, c5, rfl, hR5.setCell hbk _, hS5.1.setCell (by simp) _⟩
    · have hlz : ¬ (k : Int) < (l.length : Int) := by omega
      have HL := hend (fun h => absurd h hlt)
      clear hend
      go_upto_region 6 with fail
      have hkl : (l.take k).length = k := by simp; omega
      have hdl : (l.drop k).length = l.length - k := by simp
      refine wp_region_held (S := WS w (.slice A l.length c)) (by kernel_rfl) ?_
      have hS := hS.drew
      clear c2
      refine h_pure 1 ({ dst := some 35, op := Op.fieldAddr 30 (Operand.tmp 2) 0, type := 0, pos := "ref.go:30", after := #[], guard := none } : Oper) (.pointer (some ⟨w.heap.size, 0, none⟩)) (by kernel_rfl) rfl (by kernel_rfl) (by kernel_rfl) (fun _ _ _ h => h) rfl (y_field rfl rfl) hS ?_
      simp only [Act.put, List.setIfInBounds_toArray, List.set_cons_zero, List.set_cons_succ]
      refine h_pure 2 ({ dst := some 36, op := Op.load 22 (Operand.tmp 35), type := 22, pos := "ref.go:30", after := #[{ on := 1, ground := Ground.data }], guard := none } : Oper) (.slice A l.length c) (by kernel_rfl) rfl (by kernel_rfl) (by kernel_rfl) (fun _ _ _ h => h) rfl (y_load22 rfl rfl (fun _ h => WS.cell h)) hS ?_
      simp only [Act.put, List.setIfInBounds_toArray, List.set_cons_zero, List.set_cons_succ]
      refine h_pure 3 ({ dst := some 37, op := Op.move (Operand.tmp 5), type := 3, pos := "ref.go:30", after := #[], guard := none } : Oper) (.int .i64 (k : Int)) (by kernel_rfl) rfl (by kernel_rfl) (by kernel_rfl) (fun _ _ _ h => h) rfl (y_move rfl rfl) hS ?_
      simp only [Act.put, List.setIfInBounds_toArray, List.set_cons_zero, List.set_cons_succ]
      refine h_pure 4 ({ dst := some 38, op := Op.slice 22 (Operand.tmp 36) none (some (Operand.tmp 37)) none, type := 22, pos := "ref.go:30", after := #[{ on := 2, ground := Ground.data }, { on := 3, ground := Ground.data }], guard := none } : Oper) (.slice A k c) (by kernel_rfl) rfl (by kernel_rfl) (by kernel_rfl) (fun _ _ _ h => h) rfl (y_sliceH (n := l.length) (k := k) rfl rfl rfl (by omega)) hS ?_
      simp only [Act.put, List.setIfInBounds_toArray, List.set_cons_zero, List.set_cons_succ]
      refine h_pure 6 ({ dst := some 40, op := Op.move (Operand.tmp 1), type := 3, pos := "ref.go:30", after := #[], guard := none } : Oper) (.int .i64 n) (by kernel_rfl) rfl (by kernel_rfl) (by kernel_rfl) (fun _ _ _ h => h) rfl (y_move rfl rfl) hS ?_
      simp only [Act.put, List.setIfInBounds_toArray, List.set_cons_zero, List.set_cons_succ]
      refine h_pure 9 ({ dst := some 43, op := Op.fieldAddr 30 (Operand.tmp 2) 0, type := 0, pos := "ref.go:30", after := #[], guard := none } : Oper) (.pointer (some ⟨w.heap.size, 0, none⟩)) (by kernel_rfl) rfl (by kernel_rfl) (by kernel_rfl) (fun _ _ _ h => h) rfl (y_field rfl rfl) hS ?_
      simp only [Act.put, List.setIfInBounds_toArray, List.set_cons_zero, List.set_cons_succ]
      refine h_pure 10 ({ dst := some 44, op := Op.load 22 (Operand.tmp 43), type := 22, pos := "ref.go:30", after := #[{ on := 9, ground := Ground.data }], guard := none } : Oper) (.slice A l.length c) (by kernel_rfl) rfl (by kernel_rfl) (by kernel_rfl) (fun _ _ _ h => h) rfl (y_load22 rfl rfl (fun _ h => WS.cell h)) hS ?_
      simp only [Act.put, List.setIfInBounds_toArray, List.set_cons_zero, List.set_cons_succ]
      refine h_pure 11 ({ dst := some 45, op := Op.move (Operand.tmp 5), type := 3, pos := "ref.go:30", after := #[], guard := none } : Oper) (.int .i64 (k : Int)) (by kernel_rfl) rfl (by kernel_rfl) (by kernel_rfl) (fun _ _ _ h => h) rfl (y_move rfl rfl) hS ?_
      simp only [Act.put, List.setIfInBounds_toArray, List.set_cons_zero, List.set_cons_succ]
      refine h_pure 12 ({ dst := some 46, op := Op.slice 22 (Operand.tmp 44) (some (Operand.tmp 45)) none none, type := 22, pos := "ref.go:30", after := #[{ on := 10, ground := Ground.data }, { on := 11, ground := Ground.data }], guard := none } : Oper) (.slice (if c = k then A else A.map (·.add k)) (l.length - k) (c - k)) (by kernel_rfl) rfl (by kernel_rfl) (by kernel_rfl) (fun _ _ _ h => h) rfl (y_sliceL rfl rfl rfl (by omega)) hS ?_
      simp only [Act.put, List.setIfInBounds_toArray, List.set_cons_zero, List.set_cons_succ]
      refine h_fork (o0 := { dst := some 34, op := Op.buildSlice 22 0 #[], type := 22, pos := "ref.go:30", after := #[], guard := none }) (o5 := { dst := some 39, op := Op.call { callee := Callee.builtin Builtin.append, args := #[Operand.tmp 34, Operand.tmp 38], argTypes := #[22, 22] }, type := 22, pos := "ref.go:30", after := #[{ on := 0, ground := Ground.data }, { on := 4, ground := Ground.data }], guard := none }) (o7 := { dst := some 41, op := Op.buildSlice 22 1 #[(0, Operand.tmp 40)], type := 22, pos := "ref.go:30", after := #[{ on := 6, ground := Ground.data }], guard := none }) (s := .tmp 34) (x := .tmp 40) (y := .tmp 38) (A := A) (c := c) (l := l.take k) (n := n) rfl rfl rfl rfl rfl rfl rfl rfl rfl rfl rfl rfl (by kernel_rfl) (by kernel_rfl) (by kernel_rfl) (by kernel_rfl) (by kernel_rfl) rfl (fun _ => rfl) (fun _ _ => rfl) (fun _ => rfl) (fun _ _ => rfl) (fun _ => by rw [hkl]; rfl) (fun _ _ => by rw [hkl]; rfl) hS (by omega) (fun w' h => (HR.out.1.below h.1).take k) ?_
      intro u0 u5 A7 w3 own3 hI3 hS3
      simp only [Act.put, List.setIfInBounds_toArray, List.set_cons_zero, List.set_cons_succ]
      refine wpAnyH_all (rs := [8]) (by kernel_rfl) (by simp) fun i hi => ?_
      obtain rfl : i = 8 := by simpa using hi
      clear hi
      refine o_app (o := { dst := some 42, op := Op.call { callee := Callee.builtin Builtin.append, args := #[Operand.tmp 39, Operand.tmp 41], argTypes := #[22, 22] }, type := 22, pos := "ref.go:30", after := #[{ on := 5, ground := Ground.data }, { on := 7, ground := Ground.data }, { on := 5, ground := Ground.chain }], guard := none }) (s := .tmp 39) (x := .tmp 41) (m := [n]) (base := w.heap.size + 2) rfl rfl rfl rfl rfl own3 hI3 (by simp; omega) hS3.2.1 ?_
      intro u8 w4 own4 gr4 _
      have hS4 := hS3.grown gr4 (fun g hg => (own3.lt g hg).1)
      refine ⟨hS4, ?_⟩
      simp only [Act.put, List.setIfInBounds_toArray, List.set_cons_zero, List.set_cons_succ]
      refine wpAnyH_all (rs := [13]) (by kernel_rfl) (by simp) fun i hi => ?_
      obtain rfl : i = 13 := by simpa using hi
      clear hi
      refine o_app (o := { dst := some 47, op := Op.call { callee := Callee.builtin Builtin.append, args := #[Operand.tmp 42, Operand.tmp 46], argTypes := #[22, 22] }, type := 22, pos := "ref.go:30", after := #[{ on := 8, ground := Ground.data }, { on := 12, ground := Ground.data }, { on := 8, ground := Ground.chain }], guard := none }) (s := .tmp 42) (x := .tmp 46) (l := l.take k ++ [n]) (m := l.drop k) (A := if c = k then A else A.map (·.add k)) (c := c - k) (base := w.heap.size + 2) rfl rfl rfl rfl (by rw [hdl]; rfl) own4 ((HR.out.1.below hS4.1).drop HR.out.2.1 k) (by simp; omega) hS4.2.1 ?_
      intro u13 w5 own5 gr5 _
      have hS5 := hS4.grown gr5 (fun g hg => (own4.lt g hg).1)
      refine ⟨hS5, ?_⟩
      simp only [Act.put, List.setIfInBounds_toArray, List.set_cons_zero, List.set_cons_succ]
      rw [HL.out] at own5
      obtain ⟨A5, c5, rfl, hR5⟩ := own_RL own5
      have hbk : ∀ b off, A5 = some ⟨b, off, none⟩ → b ≠ w.heap.size + 1 := fun b off e => by have := (own5.lt b (by rw [e]; rfl)).1; omega
      have hS := hS5
      refine h_pure 14 ({ dst := some 48, op := Op.build 30 #[(0, Operand.tmp 47)], type := 30, pos := "ref.go:30", after := #[{ on := 13, ground := Ground.data }], guard := none } : Oper) (.agg #[.slice A5 l'.length c5]) (by kernel_rfl) rfl (by kernel_rfl) (by kernel_rfl) (fun _ _ _ h => h) rfl (y_build30 rfl rfl) hS ?_
      simp only [Act.put, List.setIfInBounds_toArray, List.set_cons_zero, List.set_cons_succ]
      refine wpAnyH_all (rs := [15]) (by kernel_rfl) (by simp) fun i hi => ?_
      obtain rfl : i = 15 := by simpa using hi
      clear hi
      refine o_store30 (o := { dst := none, op := Op.store 30 (Operand.tmp 4) (Operand.tmp 48), type := 0, pos := "ref.go:30", after := #[{ on := 14, ground := Ground.data }, { on := 13, ground := Ground.chain }, { on := 0, ground := Ground.phase }, { on := 1, ground := Ground.phase }, { on := 2, ground := Ground.phase }, { on := 3, ground := Ground.phase }, { on := 4, ground := Ground.phase }, { on := 5, ground := Ground.phase }, { on := 6, ground := Ground.phase }, { on := 7, ground := Ground.phase }, { on := 8, ground := Ground.phase }, { on := 9, ground := Ground.phase }, { on := 10, ground := Ground.phase }, { on := 11, ground := Ground.phase }, { on := 12, ground := Ground.phase }, { on := 13, ground := Ground.phase }, { on := 14, ground := Ground.phase }], guard := none }) (g := w.heap.size + 1) (x := .tmp 4) (y := .tmp 48) rfl rfl rfl rfl rfl hS5.2.2.2 ?_
      refine ⟨hS5.set_ _, ?_⟩
      simp only [Act.put]
      refine wpAnyH_done (by kernel_rfl) ?_ _
      obtain ⟨u, hu⟩ := hS5.2.2.2
      go_wp2
      all_goals exact ret30 rfl rfl rfl (hu.set_ _) ⟨A5, c5, rfl, hR5.setCell hbk _, hS5.1.setCell (by simp) _⟩
end Go.Proofs.YtabdhmfjbielaaaDoor
