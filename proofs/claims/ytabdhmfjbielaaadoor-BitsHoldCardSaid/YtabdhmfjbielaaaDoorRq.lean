/- PROVED here: the law's own alike answers true where a set's list is the document's. No condition but those in each theorem's own head. -/
import Derived.Test.YtabdhmfjbielaaaDoorRp
namespace Go.Proofs.YtabdhmfjbielaaaDoor
open Go Go.RowKit
theorem heapT (w : World) (a b : Obj) : ((w.alloc a).alloc b).heap[w.heap.size]? = some a ∧ ((w.alloc a).alloc b).heap[w.heap.size + 1]? = some b := ⟨heap_alloc2_old w _ _, heap_alloc2_new w _ _⟩
set_option maxRecDepth 100000 in
set_option maxHeartbeats 4000000 in
theorem RAlike (s : Nat) (l : List Int) (H : Hid (els s 4096 = l)) (A : Option Addr) (c : Nat) (w : World) (hT : Tabs w) (hR : RL w A c l) :
    Calls Tryd.prog 12 #[.agg (ofF (wd s)), .agg #[.slice A l.length c]] w fun e w' => e = .returned (.bool true) ∧ Below w.heap.size w w' := by
  have HT := Lib.hid (fun w' (hb : Below w.heap.size w w') => hT.below hb)
  have HR := Lib.hid hR
  have hl : l.length ≤ 4096 := by rw [← H.out]; exact els_len s 4096
  clear hT hR
  go_enter Tryd.func12, Tryd.ntmps12
  go_upto_region 1 with fail
  refine gen_world (fun w1 => Below w.heap.size w w1 ∧ w.heap.size < w1.heap.size ∧ Blk w1 w.heap.size (ofF (wd s)) ∧ Blk1 w1 (w.heap.size + 1) (.slice A l.length c)) ⟨below2 w _ _, by simp; omega, (heapT w _ _).1, (heapT w _ _).2⟩ ?_
  rintro w1 ⟨hb, l1, b1, b2⟩
  refine h_region ?_
  intro hS0
  refine h_pure 0 ({ dst := some 5, op := Op.load 27 (Operand.tmp 2), type := 27, pos := "law.go:23", after := #[], guard := none } : Oper) (.agg (ofF (wd s))) (by kernel_rfl) rfl (by kernel_rfl) (by kernel_rfl) (fun _ _ _ h => h) rfl (y_load (g := w.heap.size) (f := wd s) rfl rfl (load_blk b1 l1)) hS0 ?_
  simp only [Act.put, List.setIfInBounds_toArray, List.set_cons_zero, List.set_cons_succ]
  refine h_pure 2 ({ dst := some 7, op := Op.fieldAddr 30 (Operand.tmp 3) 0, type := 0, pos := "law.go:23", after := #[], guard := none } : Oper) (.pointer (some ⟨w.heap.size + 1, 0, none⟩)) (by kernel_rfl) rfl (by kernel_rfl) (by kernel_rfl) (fun _ _ _ h => h) rfl (y_field rfl rfl) hS0 ?_
  simp only [Act.put, List.setIfInBounds_toArray, List.set_cons_zero, List.set_cons_succ]
  refine h_pure 3 ({ dst := some 8, op := Op.load 22 (Operand.tmp 7), type := 22, pos := "law.go:23", after := #[{ on := 2, ground := Ground.data }], guard := none } : Oper) (.slice A l.length c) (by kernel_rfl) rfl (by kernel_rfl) (by kernel_rfl) (fun _ _ _ h => h) rfl (y_load22 rfl rfl (fun w' h => (b2.bel b2.lt w' h).cell)) hS0 ?_
  simp only [Act.put, List.setIfInBounds_toArray, List.set_cons_zero, List.set_cons_succ]
  refine h_call 1 ({ dst := some 6, op := Op.call { callee := Callee.value (Operand.func 35), args := #[Operand.tmp 5], argTypes := #[27] }, type := 22, pos := "law.go:23", after := #[{ on := 0, ground := Ground.data }], guard := none } : Oper) (args := #[.agg (ofF (wd s))]) (fun v w' => ∃ A' c', v = .slice A' l.length c' ∧ Ints w' A' l ∧ Cl w1 w') own35 rfl rfl (by kernel_rfl) rfl rfl ((List_ s _ (HT.out _ (Cl.trans (w := w) hb hS0))).mono fun e w' ⟨v, he, hown, hbl⟩ => ⟨v, he, by have hown2 := hown; rw [H.out] at hown2; obtain ⟨A', c', e2, hI'⟩ := own_slice hown2; exact ⟨A', c', e2, hI', Cl.trans (w := w1) hS0 hbl⟩⟩) ?_
  rintro _ w2 ⟨A', c', rfl, hI', hS2⟩
  refine ⟨hS2, ?_⟩
  simp only [Act.put, List.setIfInBounds_toArray, List.set_cons_zero, List.set_cons_succ]
  refine h_callv 4 ({ dst := some 9, op := Op.call { callee := Callee.value (Operand.func 36), args := #[Operand.tmp 6, Operand.tmp 8], argTypes := #[22, 22] }, type := 4, pos := "law.go:23", after := #[{ on := 1, ground := Ground.data }, { on := 3, ground := Ground.data }, { on := 1, ground := Ground.chain }], guard := none } : Oper) (args := #[.slice A' l.length c', .slice A l.length c]) (v := .bool true) own36 rfl rfl (by kernel_rfl) rfl rfl hS2 (((sameInts A' A c' c l l w2 (by omega) (by omega) hI' ((HR.out.1.below hb).below hS2)).mono fun e w' ⟨he, n, hn⟩ => ⟨he.trans (ret_bool (by unfold eqL; simp)), by rw [hn]; exact below_drewN (Below.refl _ _) n⟩)) ?_
  intro w3 hb3 hS3
  simp only [Act.put, List.setIfInBounds_toArray, List.set_cons_zero, List.set_cons_succ]
  refine h_pure 5 ({ dst := some 10, op := Op.move (Operand.tmp 9), type := 4, pos := "law.go:23", after := #[{ on := 4, ground := Ground.data }, { on := 4, ground := Ground.chain }], guard := none } : Oper) (.bool true) (by kernel_rfl) rfl (by kernel_rfl) (by kernel_rfl) (fun _ _ _ h => h) rfl (y_move rfl rfl) hS3 ?_
  simp only [Act.put, List.setIfInBounds_toArray, List.set_cons_zero, List.set_cons_succ]
  refine h_pure 6 ({ dst := some 11, op := Op.load 27 (Operand.tmp 2), type := 27, pos := "law.go:23", after := #[{ on := 5, ground := Ground.guard }], guard := some (5, true) } : Oper) (.agg (ofF (wd s))) (by kernel_rfl) rfl (by kernel_rfl) (by kernel_rfl) (fun _ _ _ h => h) rfl (y_load (g := w.heap.size) (f := wd s) rfl rfl (load_blk b1 l1)) hS3 ?_
  simp only [Act.put, List.setIfInBounds_toArray, List.set_cons_zero, List.set_cons_succ]
  refine h_pure 8 ({ dst := some 13, op := Op.fieldAddr 30 (Operand.tmp 3) 0, type := 0, pos := "law.go:23", after := #[{ on := 5, ground := Ground.guard }], guard := some (5, true) } : Oper) (.pointer (some ⟨w.heap.size + 1, 0, none⟩)) (by kernel_rfl) rfl (by kernel_rfl) (by kernel_rfl) (fun _ _ _ h => h) rfl (y_field rfl rfl) hS3 ?_
  simp only [Act.put, List.setIfInBounds_toArray, List.set_cons_zero, List.set_cons_succ]
  refine h_pure 9 ({ dst := some 14, op := Op.load 22 (Operand.tmp 13), type := 22, pos := "law.go:23", after := #[{ on := 8, ground := Ground.data }, { on := 5, ground := Ground.guard }], guard := some (5, true) } : Oper) (.slice A l.length c) (by kernel_rfl) rfl (by kernel_rfl) (by kernel_rfl) (fun _ _ _ h => h) rfl (y_load22 rfl rfl (fun w' h => (b2.bel b2.lt w' h).cell)) hS3 ?_
  simp only [Act.put, List.setIfInBounds_toArray, List.set_cons_zero, List.set_cons_succ]
  refine h_pure 10 ({ dst := some 15, op := Op.call { callee := Callee.builtin Builtin.len, args := #[Operand.tmp 14], argTypes := #[22] }, type := 3, pos := "law.go:23", after := #[{ on := 9, ground := Ground.data }, { on := 5, ground := Ground.guard }], guard := some (5, true) } : Oper) (.int .i64 (l.length : Int)) (by kernel_rfl) rfl (by kernel_rfl) (by kernel_rfl) (fun _ _ _ h => h) rfl (y_len rfl rfl) hS3 ?_
  simp only [Act.put, List.setIfInBounds_toArray, List.set_cons_zero, List.set_cons_succ]
  refine h_callv 7 ({ dst := some 12, op := Op.call { callee := Callee.value (Operand.func 34), args := #[Operand.tmp 11], argTypes := #[27] }, type := 3, pos := "law.go:23", after := #[{ on := 6, ground := Ground.data }, { on := 5, ground := Ground.chain }, { on := 5, ground := Ground.guard }], guard := some (5, true) } : Oper) (args := #[.agg (ofF (wd s))]) (v := .int .i64 (cntK s 64 : Int)) own34 rfl rfl (by kernel_rfl) rfl rfl hS3 (Count s _) ?_
  intro w4 hb4 hS4
  simp only [Act.put, List.setIfInBounds_toArray, List.set_cons_zero, List.set_cons_succ]
  refine h_pure 11 ({ dst := some 16, op := Op.binOp BinOp.eql 3 (Operand.tmp 12) (Operand.tmp 15) 3, type := 4, pos := "law.go:23", after := #[{ on := 7, ground := Ground.data }, { on := 10, ground := Ground.data }, { on := 5, ground := Ground.guard }], guard := some (5, true) } : Oper) (.bool true) (by kernel_rfl) rfl (by kernel_rfl) (by kernel_rfl) (fun _ _ _ h => h) rfl (y_eqlI (u := (cntK s 64 : Int)) (v := (l.length : Int)) rfl rfl rfl (by rw [cnt_els, H.out]; simp)) hS4 ?_
  simp only [Act.put, List.setIfInBounds_toArray, List.set_cons_zero, List.set_cons_succ]
  refine h_pure 12 ({ dst := some 17, op := Op.pick (Operand.tmp 10) (Operand.tmp 16) (Operand.const (Value.bool false)), type := 4, pos := "law.go:23", after := #[{ on := 5, ground := Ground.data }, { on := 11, ground := Ground.data }], guard := none } : Oper) (.bool true) (by kernel_rfl) rfl (by kernel_rfl) (by kernel_rfl) (fun _ _ _ h => h) rfl (y_pick rfl rfl rfl) hS4 ?_
  simp only [Act.put, List.setIfInBounds_toArray, List.set_cons_zero, List.set_cons_succ]
  refine h_pure 13 ({ dst := some 4, op := Op.assign (Operand.tmp 17), type := 4, pos := "law.go:23", after := #[{ on := 12, ground := Ground.data }, { on := 7, ground := Ground.chain }, { on := 0, ground := Ground.phase }, { on := 1, ground := Ground.phase }, { on := 2, ground := Ground.phase }, { on := 3, ground := Ground.phase }, { on := 4, ground := Ground.phase }, { on := 5, ground := Ground.phase }, { on := 6, ground := Ground.phase }, { on := 7, ground := Ground.phase }, { on := 8, ground := Ground.phase }, { on := 9, ground := Ground.phase }, { on := 10, ground := Ground.phase }, { on := 11, ground := Ground.phase }, { on := 12, ground := Ground.phase }], guard := none } : Oper) (.bool true) (by kernel_rfl) rfl (by kernel_rfl) (by kernel_rfl) (fun _ _ _ h => h) rfl (y_assign rfl rfl) hS4 ?_
  simp only [Act.put, List.setIfInBounds_toArray, List.set_cons_zero, List.set_cons_succ]
  refine wpAnyH_done (by kernel_rfl) ?_ _
  have hB4 : Below w.heap.size w w4 := Cl.trans (w := w) hb hS4
  go_wp2
  go_ret
  exact ⟨rfl, hB4⟩
end Go.Proofs.YtabdhmfjbielaaaDoor
