/- PROVED here: the chapter's examples hold (shown returns true), where the library's tables are as its text lays them. No condition but those in each theorem's own head. -/
import Derived.Test.YtabdhmfjbielaaaDoorT
namespace Go.Proofs.YtabdhmfjbielaaaDoor
open Go Go.RowKit

theorem load_g {ops : Array Oper} {rest : List Oper} {d : Option Tmp} {ty : TypeId} {p : String} {af : Array Edge} {gd : Option (Nat × Bool)} {x : Operand} {a : Act} {w : World} {Q : Exit → Act → World → Prop}
    {g : Nat} {f : Nat → Nat} (hw : Region.wanted ⟨d, .load 27 x, ty, p, af, gd⟩ (yielded ops a.tmps) = true) (hx : a.eval x = .pointer (some ⟨g, 0, none⟩)) (hg : Blk w g (ofF f)) (h : wpList Tryd.prog ops Q rest (a.put d (.agg (ofF f))) w) :
    wpList Tryd.prog ops Q (⟨d, .load 27 x, ty, p, af, gd⟩ :: rest) a w :=
  wpList_step fun K hK => by
    rw [if_pos hw]
    exact wp_load_row 27 x rfl g hx 27 (ofF f) (0, 0) _ hg under27 rfl (by rw [ofF_size]; exact size27) (hK _ _ h)

/-- a row of ints, just made -/
def rowI (l : List Int) : Obj := .cells (l.map (Value.int .i64)).toArray 3
theorem ints_new (w : World) (l : List Int) : Ints (w.alloc (rowI l)) (some ⟨w.heap.size, 0, none⟩) l := fun _ =>
  ⟨w.heap.size, 0, rfl, by simp, fun j hj => by
    rw [Nat.zero_add]
    refine (cell_of_row _ w.heap.size j (l.map (Value.int .i64)).toArray 3 (0, 0) (heap_alloc_new w _)).trans ?_
    simp [hj]⟩
theorem below_new {w w' : World} {o : Obj} (h : Below (w.alloc o).heap.size (w.alloc o) w') : Below w.heap.size w w' := (heap1 w o).trans (h.mono (by simp))
theorem of_lit (l : List Int) (hl : l.length ≤ 300) (w : World) : Calls Tryd.prog 10 #[.slice (some ⟨w.heap.size, 0, none⟩) l.length l.length] (w.alloc (rowI l)) fun e w' => e = .returned (.agg (ofF (wd (ofL l)))) ∧ Below w.heap.size w w' :=
  (Of _ _ l _ (by omega) (ints_new w l)).mono fun _ _ ⟨he, hb⟩ => ⟨he, below_new hb⟩

theorem of_lit1 (x : Int) (w : World) : Calls Tryd.prog 10 #[.slice (some ⟨w.heap.size, 0, none⟩) 1 1] (w.alloc (.cells #[.int .i64 x] 3)) fun e w' => e = .returned (.agg (ofF (wd (ofL [x])))) ∧ Below w.heap.size w w' := of_lit [x] (by simp) w
theorem of_lit2 (x y : Int) (w : World) : Calls Tryd.prog 10 #[.slice (some ⟨w.heap.size, 0, none⟩) 2 2] (w.alloc (.cells #[.int .i64 x, .int .i64 y] 3)) fun e w' => e = .returned (.agg (ofF (wd (ofL [x, y])))) ∧ Below w.heap.size w w' := of_lit [x, y] (by simp) w
theorem of_lit5 (x y z u v : Int) (w : World) : Calls Tryd.prog 10 #[.slice (some ⟨w.heap.size, 0, none⟩) 5 5] (w.alloc (.cells #[.int .i64 x, .int .i64 y, .int .i64 z, .int .i64 u, .int .i64 v] 3)) fun e w' => e = .returned (.agg (ofF (wd (ofL [x, y, z, u, v])))) ∧ Below w.heap.size w w' := of_lit [x, y, z, u, v] (by simp) w
def exA : Nat := ofL [5, 3, 5, -1, 4096]
def exB : Nat := minus (ofL [1, 2] ||| ofL [2, 9]) (ofL [1])
def exC : Nat := ofL [3]
def exD : Nat := ofL [1, 2, 3, 5, 6]
theorem exA_list : eqL (els exA 4096) [3, 5] = true := by decide +kernel
theorem exB_list : eqL (els exB 4096) [2, 9] = true := by decide +kernel
theorem exC_2 : nextF exC 2 = 3 := by decide +kernel
theorem exC_4 : nextF exC 4 = -1 := by decide +kernel
theorem exD_0 : nextF exD 0 = ((1 : Nat) : Int) := by decide +kernel
theorem exD_r1 : reF exD 1 = 3 := by decide +kernel
theorem exD_4 : nextF exD ((3 : Nat) + 1) = ((5 : Nat) : Int) := by decide +kernel
theorem exD_r5 : reF exD 5 = 6 := by decide +kernel
theorem exD_7 : nextF exD ((6 : Nat) + 1) = -1 := by decide +kernel
theorem exD_text : textF exD = [49, 45, 51, 44, 53, 44, 54] := by
  unfold textF
  rw [exD_0, show (4096 : Nat) = 4094 + 1 + 1 by decide, runs_pos, exD_r1, exD_4, runs_pos, exD_r5, exD_7, runs_neg _ _ (by decide)]
  simp [rt, Lib.itoa, Lib.decDigits_one, Lib.join, List.intercalate]

theorem run_alloc27 (w : World) : (Instr.alloc 27 true (.tuple #[])).run Tryd.prog w = .ok (.pointer (some ⟨w.heap.size, 0, none⟩)) (w.alloc (.cells (ofF (wd 0)) 27)) := by
  rw [← zero_lit]
  have h := Tryd.zeroValue27
  simp [Instr.alloc, go_sem, h]
/-- a variable is made, and a set is laid there -/
theorem alloc_store {ops : Array Oper} {rest : List Oper} {t : Tmp} {d2 : Option Tmp} {ty ty2 : TypeId} {p p2 : String} {af af2 : Array Edge} {y : Operand} {a : Act} {w : World} {Q : Exit → Act → World → Prop} {f : Nat → Nat}
    (hx : (a.put (some t) (.pointer (some ⟨w.heap.size, 0, none⟩))).eval (.tmp t) = .pointer (some ⟨w.heap.size, 0, none⟩)) (hy : (a.put (some t) (.pointer (some ⟨w.heap.size, 0, none⟩))).eval y = .agg (ofF f))
    (h : ∀ w', Below w.heap.size w w' → w.heap.size < w'.heap.size → Blk w' w.heap.size (ofF f) → wpList Tryd.prog ops Q rest ((a.put (some t) (.pointer (some ⟨w.heap.size, 0, none⟩))).put d2 undef) w') :
    wpList Tryd.prog ops Q (⟨some t, .alloc 27, ty, p, af, none⟩ :: ⟨d2, .store 27 (.tmp t) y, ty2, p2, af2, none⟩ :: rest) a w :=
  wpList_plain rfl fun K hK => by
    unfold Oper.wp execOp
    simp only [Sem.run_bind, run_alloc27, Sem.run_pure, Result.andThen_ok]
    refine hK _ _ (store_lit hx hy (heap_alloc_new w _) ?_)
    exact h _ (below_setRow (heap1 w _) (Nat.le_refl _) _) (by simp) (Blk.setRow (heap_alloc_new w _ : Blk _ _ (ofF (wd 0))) _)
theorem blk_below {w w' : World} {g : Nat} {cs : Array Value} (h : Blk w g cs) (hl : g < w.heap.size) (hb : Below w.heap.size w w') : Blk w' g cs := (hb.block g hl).trans h

theorem lit9 : Tryd.prog.underlying 9 = some .string := by kernel_rfl
theorem run_eql9 (s : ByteArray) (w : World) : (binOp .eql 9 (.string s) (.string s)).run Tryd.prog w = .ok (.bool true) w := by
  simp [go_sem]
/-- two texts that are the same -/
theorem eqs_g {ops : Array Oper} {rest : List Oper} {d : Option Tmp} {ty : TypeId} {p : String} {af : Array Edge} {gd : Option (Nat × Bool)} {x y : Operand} {a : Act} {w : World} {Q : Exit → Act → World → Prop}
    {s : ByteArray} (hw : Region.wanted ⟨d, .binOp .eql 9 x y 9, ty, p, af, gd⟩ (yielded ops a.tmps) = true) (hx : a.eval x = .string s) (hy : a.eval y = .string s) (h : wpList Tryd.prog ops Q rest (a.put d (.bool true)) w) :
    wpList Tryd.prog ops Q (⟨d, .binOp .eql 9 x y 9, ty, p, af, gd⟩ :: rest) a w :=
  wpList_step fun K hK => by
    rw [if_pos hw]
    unfold Oper.wp execOp
    have hg : (eqGuard .eql 9 x y (.string s) (.string s)).run Tryd.prog w = .ok () w := by rw [eqGuard_at_string]; rfl
    simp only [hx, hy, Sem.run_bind, hg, run_eql9, Sem.run_pure, Result.andThen_ok]
    exact hK _ _ h
theorem bt {a b c : World} (h : Below a.heap.size a b) (k : Below b.heap.size b c) : Below a.heap.size a c := h.trans (k.mono h.size)
theorem same_lit2 (x y : Int) (A : Option Addr) (c : Nat) (l : List Int) (w : World) (hI : Ints w A l) (hl : l.length ≤ 4096) (h : eqL l [x, y] = true) :
    Calls Tryd.prog 36 #[.slice A l.length c, .slice (some ⟨w.heap.size, 0, none⟩) 2 2] (w.alloc (.cells #[.int .i64 x, .int .i64 y] 3)) fun e w' => e = .returned (.bool true) ∧ Below w.heap.size w w' := by
  have := sameInts A (some ⟨w.heap.size, 0, none⟩) c 2 l [x, y] (w.alloc (rowI [x, y])) (by omega) (by simp) (hI.below (heap1 w _)) (ints_new w [x, y])
  rw [h] at this
  exact this.mono fun _ _ ⟨he, n, hn⟩ => ⟨he, by rw [hn]; exact below_drewN (heap1 w _) n⟩
theorem text_D (w : World) (hT : Tabs w) : Calls Tryd.prog 21 #[.agg (ofF (wd (ofL [1, 2, 3, 5, 6])))] w fun e w' => e = .returned (.string (tx [49, 45, 51, 44, 53, 44, 54])) ∧ Below w.heap.size w w' := by
  have := Text exD (small_ofL _) w hT
  rw [exD_text] at this
  exact this

set_option maxRecDepth 100000 in
set_option maxHeartbeats 4000000 in
theorem shown (w : World) (HT : Hid (∀ w', Below w.heap.size w w' → Tabs w')) : Calls Tryd.prog 9 #[] w fun e w' => e = .returned (.bool true) ∧ Below w.heap.size w w' := by
  go_enter Tryd.func9, Tryd.ntmps9
  go_upto_region 2 with (first
    | (go_at_call 10; refine (of_lit5 5 3 5 (-1) 4096 _).mono ?_; rintro e wa ⟨rfl, hba⟩)
    | ((with_reducible apply alloc_store); (exact rfl); (exact rfl); intro w1 hb1 hz1 h1; simp only [Act.put, List.setIfInBounds_toArray, List.set_cons_zero, List.set_cons_succ]))
  have hB1 : Below w.heap.size w w1 := hba.trans (hb1.mono hba.size)
  have hg1 := hba.size
  generalize wa.heap.size = g1 at *
  clear hba hb1
  go_upto_region 3 with (first
    | (go_at_call 10; first
        | ((with_reducible refine (of_lit2 1 2 _).mono ?_); rintro e wb ⟨rfl, hbb⟩)
        | ((with_reducible refine (of_lit2 2 9 _).mono ?_); rintro e wc ⟨rfl, hbc⟩)
        | ((with_reducible refine (of_lit1 1 _).mono ?_); rintro e we ⟨rfl, hbe⟩))
    | (go_at_call 24; refine (Or _ _ _).mono ?_; rintro e wd' ⟨rfl, hbd⟩)
    | (go_at_call 28; refine (Minus _ _ _).mono ?_; rintro e wf ⟨rfl, hbf⟩)
    | ((with_reducible apply alloc_store); (exact rfl); (exact rfl); intro w2 hb2 hz2 h2; simp only [Act.put, List.setIfInBounds_toArray, List.set_cons_zero, List.set_cons_succ]))
  have hB12 : Below w1.heap.size w1 w2 := bt (bt (bt (bt (bt hbb hbc) hbd) hbe) hbf) hb2
  have hB2 : Below w.heap.size w w2 := hB1.trans (hB12.mono hB1.size)
  have h12 : Blk w2 g1 (ofF (wd exA)) := blk_below h1 hz1 hB12
  have h22 : Blk w2 wf.heap.size (ofF (wd exB)) := h2
  have hz12 : g1 < w2.heap.size := by have := hB12.size; omega
  generalize wf.heap.size = g2 at *
  clear hbb hbc hbd hbe hbf hb2 hB12 h1 h2 hz1
  go_upto_region 4 with (first
    | (go_at_call 10; refine (of_lit1 3 _).mono ?_; rintro e wg ⟨rfl, hbg⟩)
    | ((with_reducible apply alloc_store); (exact rfl); (exact rfl); intro w3 hb3 hz3 h3; simp only [Act.put, List.setIfInBounds_toArray, List.set_cons_zero, List.set_cons_succ]))
  have hB23 : Below w2.heap.size w2 w3 := bt hbg hb3
  have hB3 : Below w.heap.size w w3 := hB2.trans (hB23.mono hB2.size)
  have h13 : Blk w3 g1 (ofF (wd exA)) := blk_below h12 hz12 hB23
  have h23 : Blk w3 g2 (ofF (wd exB)) := blk_below h22 hz2 hB23
  have h33 : Blk w3 wg.heap.size (ofF (wd exC)) := h3
  have hz13 : g1 < w3.heap.size := by have := hB23.size; omega
  have hz23 : g2 < w3.heap.size := by have := hB23.size; omega
  generalize wg.heap.size = g3 at *
  clear hbg hb3 hB23 h12 h22 h3 hz12 hz2 hB2
  have L1 := Lib.hid (fun w1 h => List_ exA w1 h)
  have L2 := Lib.hid (fun w1 h => List_ exB w1 h)
  have e1 := els_len exA 4096
  have e2 := els_len exB 4096
  have N1 : Hid (∀ w1, Tabs w1 → Calls Tryd.prog 19 #[.agg (ofF (wd exC)), .int .i64 2] w1 fun e w' => e = .returned (.int .i64 3) ∧ Below w1.heap.size w1 w') := fun w1 h => by
    have := Next exC 2 w1 h; rw [exC_2] at this; exact this
  have N2 : Hid (∀ w1, Tabs w1 → Calls Tryd.prog 19 #[.agg (ofF (wd exC)), .int .i64 4] w1 fun e w' => e = .returned (.int .i64 (-1)) ∧ Below w1.heap.size w1 w') := fun w1 h => by
    have := Next exC 4 w1 h; rw [exC_4] at this; exact this
  go_wp2_with (first
    | ((with_reducible apply load_g); (exact rfl); (exact rfl); assumption; simp only [Act.put, List.setIfInBounds_toArray, List.set_cons_zero, List.set_cons_succ])
    | ((with_reducible apply eqs_g); (exact rfl); (exact rfl); (exact rfl); simp only [Act.put, List.setIfInBounds_toArray, List.set_cons_zero, List.set_cons_succ])
    | (go_at_call 35; first
        | ((with_reducible refine (L1.out _ (HT.out _ hB3)).mono ?_); rintro e w4 ⟨v4, rfl, hown4, hb4⟩; obtain ⟨A4, c4, rfl, hI4⟩ := own_slice hown4)
        | ((with_reducible refine (L2.out _ (HT.out _ hB7)).mono ?_); rintro e w8 ⟨v8, rfl, hown8, hb8⟩; obtain ⟨A8, c8, rfl, hI8⟩ := own_slice hown8))
    | (go_at_call 36; first
        | ((with_reducible refine (same_lit2 3 5 A4 c4 _ w4 hI4 e1 exA_list).mono ?_); rintro e w5 ⟨rfl, hb5⟩)
        | ((with_reducible refine (same_lit2 2 9 A8 c8 _ w8 hI8 e2 exB_list).mono ?_); rintro e w9 ⟨rfl, hb9⟩; have hB9 : Below w.heap.size w w9 := bt hB7 (bt hb8 hb9); have h39 : Blk w9 g3 (ofF (wd exC)) := blk_below h37 hz37 (bt hb8 hb9)))
    | (go_at_call 10; refine (of_lit5 1 2 3 5 6 _).mono ?_; rintro e w6 ⟨rfl, hb6⟩; have hB6 : Below w.heap.size w w6 := bt hB3 (bt (bt hb4 hb5) hb6))
    | (go_at_call 21; refine (text_D _ (HT.out _ hB6)).mono ?_; rintro e w7 ⟨rfl, hb7⟩; have hB37 : Below w3.heap.size w3 w7 := bt (bt (bt hb4 hb5) hb6) hb7; have hB7 : Below w.heap.size w w7 := bt hB3 hB37; have h27 : Blk w7 g2 (ofF (wd exB)) := blk_below h23 hz23 hB37; have h37 : Blk w7 g3 (ofF (wd exC)) := blk_below h33 hz3 hB37; have hz37 : g3 < w7.heap.size := Nat.lt_of_lt_of_le hz3 hB37.size)
    | (go_at_call_of 19 (Value.int IntKind.i64 2); refine (N1.out _ (HT.out _ hB9)).mono ?_; rintro e w10 ⟨rfl, hb10⟩; have h310 : Blk w10 g3 (ofF (wd exC)) := blk_below h39 (Nat.lt_of_lt_of_le hz37 (bt hb8 hb9).size) hb10)
    | (go_at_call_of 19 (Value.int IntKind.i64 4); refine (N2.out _ (HT.out _ (bt hB9 hb10))).mono ?_; rintro e w11 ⟨rfl, hb11⟩))
  go_ret
  exact ⟨rfl, bt (bt hB9 hb10) hb11⟩
end Go.Proofs.YtabdhmfjbielaaaDoor
