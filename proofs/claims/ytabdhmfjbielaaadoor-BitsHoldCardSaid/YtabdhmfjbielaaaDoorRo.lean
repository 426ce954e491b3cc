/- PROVED here: the contracts of the document's own part, And, Minus, Within and Same over lists. No condition but those in each theorem's own head. -/
import Derived.Test.YtabdhmfjbielaaaDoorRn
namespace Go.Proofs.YtabdhmfjbielaaaDoor
open Go Go.RowKit
section
variable {ops : Array Oper} {C : World → Prop} {Q : Act → Prop} {rest : List Oper} {d : Option Tmp} {ty : TypeId} {p : String} {af : Array Edge} {gd : Option (Nat × Bool)} {a : Act}
theorem q_of {op : Op} {v : Value} (hw : Region.wanted ⟨d, op, ty, p, af, gd⟩ (yielded ops a.tmps) = true) (hy : ∀ w, C w → (execOp a.eval ⟨d, op, ty, p, af, gd⟩).run Tryd.prog w = .ok (.value v) w)
    (h : wpQuiet Tryd.prog ops C Q rest (a.put d v)) : wpQuiet Tryd.prog ops C Q (⟨d, op, ty, p, af, gd⟩ :: rest) a :=
  q_op hw (fun w hC => by unfold Oper.quietAt; rw [hy w hC]; exact ⟨rfl, rfl⟩) h
theorem y_load30 {S : World → Prop} {o : Oper} {x : Operand} {g : Nat} {A : Option Addr} {n c : Nat} (ho : o.op = .load 30 x) (hx : a.eval x = .pointer (some ⟨g, 0, none⟩)) (hg : ∀ w, S w → Blk1 w g (.slice A n c)) : ∀ w, S w → (execOp a.eval o).run Tryd.prog w = .ok (.value (.agg #[.slice A n c])) w := fun w hS => by
  have h := (hg w hS).cell
  unfold execOp
  simp only [ho, hx]
  simp [go_sem, h]
theorem y_index {S : World → Prop} {o : Oper} {x y : Operand} {b off n c k : Nat} (ho : o.op = .indexAddr 22 x y) (hx : a.eval x = .slice (some ⟨b, off, none⟩) n c) (hy : a.eval y = .int .i64 (k : Int)) (hk : k < n) : ∀ w, S w → (execOp a.eval o).run Tryd.prog w = .ok (.value (.pointer (some ⟨b, off + k, none⟩))) w := fun w _ => by
  unfold execOp
  simp only [ho, hx, hy, Sem.run_bind, run_indexI b off n c k hk, Sem.run_pure, Result.andThen_ok]
theorem y_load3 {S : World → Prop} {o : Oper} {x : Operand} {b off : Nat} {n : Int} (ho : o.op = .load 3 x) (hx : a.eval x = .pointer (some ⟨b, off, none⟩)) (hg : ∀ w, S w → w.cell? ⟨b, off, none⟩ = some (.int .i64 n)) : ∀ w, S w → (execOp a.eval o).run Tryd.prog w = .ok (.value (.int .i64 n)) w := fun w hS => by
  unfold execOp
  simp only [ho, hx, Sem.run_bind, run_load3 (hg w hS), Sem.run_pure, Result.andThen_ok]
end
theorem own18 : Own 18 := ⟨_, Tryd.func18, by kernel_rfl, by kernel_rfl⟩
theorem Blk1.bel {w : World} {g : Nat} {v : Value} (h : Blk1 w g v) (hl : g < w.heap.size) : ∀ w', Cl w w' → Blk1 w' g v := fun _ hc => (hc.block g hl).trans h
theorem Blk1.lt {w : World} {g : Nat} {v : Value} (h : Blk1 w g v) : g < w.heap.size := (Array.getElem?_eq_some_iff.1 h).1
/-- what is in another list, or is not -/
def pt (m : List Int) (b : Bool) (l : List Int) : List Int := l.filter fun x => inL m x == b
theorem pt_len (m : List Int) (b : Bool) (l : List Int) : (pt m b l).length ≤ l.length := List.length_filter_le _ _
theorem pt_take (m : List Int) (b : Bool) (l : List Int) (k : Nat) (hk : k < l.length) : pt m b (l.take (k + 1)) = pt m b (l.take k) ++ if (inL m (l.getD k 0) == b) = true then [l.getD k 0] else [] := by
  have hg : l.getD k 0 = l[k] := by simp [hk]
  unfold pt
  rw [List.take_succ_eq_append_getElem hk, List.filter_append, hg]
  cases h : (inL m l[k] == b) <;> simp [h]

set_option maxRecDepth 100000 in
set_option maxHeartbeats 4000000 in
theorem RPart (A : Option Addr) (c : Nat) (l : List Int) (B : Option Addr) (d : Nat) (m : List Int) (bb : Bool) (w : World) (hl : l.length ≤ 4096) (hI : Ints w A l) (hm : m.length ≤ 4096) (hM : Ints w B m) :
    Calls Tryd.prog 44 #[.agg #[.slice A l.length c], .agg #[.slice B m.length d], .bool bb] w (RPost (pt m bb l) w) := by
  obtain ⟨i0, hi, hz0, hz1, hz2⟩ := info_parts info3
  have HI := Lib.hid hI
  have HM := Lib.hid hM
  clear hI hM
  go_enter Tryd.func44, Tryd.ntmps44
  go_upto_region 1 with fail
  refine gen_world (fun w1 => Below w.heap.size w w1 ∧ w.heap.size + 3 ≤ w1.heap.size ∧ Blk1 w1 w.heap.size (.slice A l.length c) ∧ Blk1 w1 (w.heap.size + 1) (.slice B m.length d) ∧ Blk1 w1 (w.heap.size + 1 + 1) (.slice none 0 0)) ⟨below3 w _ _ _, by simp, (heap3 w _ _ _).1, (heap3 w _ _ _).2.1, (heap3 w _ _ _).2.2⟩ ?_
  rintro w1 ⟨hb, hz, b1, b2, b3⟩
  go_wp2_with fail
  go_loopw [7, 8] (fun v i wr => ∃ k : Nat, k ≤ l.length ∧ i = .int .i64 k ∧ wr.ownsRow (w.heap.size + 3) 3 1 v (pt m bb (l.take k)).length ((pt m bb (l.take k)).map (Value.int .i64)) ∧ Below w.heap.size w wr ∧ w.heap.size + 3 ≤ wr.heap.size ∧ Blk1 wr w.heap.size (.slice A l.length c) ∧ Blk1 wr (w.heap.size + 1) (.slice B m.length d) ∧ Blk1 wr (w.heap.size + 1 + 1) (.slice none 0 0)) (fun _ i _ => l.length - (intOf i).toNat)
  case atStart => exact ⟨0, by omega, rfl, World.ownsRow_nil _ _ _ _, hb, by omega, b1, b2, b3⟩
  case round =>
    clear hb hz b1 b2 b3
    obtain ⟨k, hk, rfl, hown, hb, hz, b1, b2, b3⟩ := hrel
    have x1 := b1.cell
    by_cases hlt : k < l.length
    · have hlz : (k : Int) < (l.length : Int) := by omega
      obtain ⟨b, off, rfl, hbl, hc⟩ := HI.out (by omega)
      have hck := (hb.cell (p := ⟨b, off + k, none⟩) hbl).trans (hc k hlt)
      have HW := Lib.hid (pt_take m bb l k hlt)
      have hwl := pt_len m bb (l.take k)
      have htl : (l.take k).length ≤ k := List.length_take_le _ _
      clear hc
      generalize l.getD k 0 = x at *
      go_upto_region 5 with fail
      refine q_region (by kernel_rfl) ?_
      refine q_of (v := .agg #[.slice B m.length d]) rfl (y_load30 (g := w.heap.size + 1) rfl rfl (b2.bel b2.lt)) ?_
      simp only [Act.put, List.setIfInBounds_toArray, List.set_cons_zero, List.set_cons_succ]
      refine q_of (v := .pointer (some ⟨w.heap.size, 0, none⟩)) rfl (y_field rfl rfl) ?_
      simp only [Act.put, List.setIfInBounds_toArray, List.set_cons_zero, List.set_cons_succ]
      refine q_of (v := .slice (some ⟨b, off, none⟩) l.length c) rfl (y_load22 rfl rfl (fun w' h => (b1.bel b1.lt w' h).cell)) ?_
      simp only [Act.put, List.setIfInBounds_toArray, List.set_cons_zero, List.set_cons_succ]
      refine q_of (v := .int .i64 (k : Int)) rfl (y_move rfl rfl) ?_
      simp only [Act.put, List.setIfInBounds_toArray, List.set_cons_zero, List.set_cons_succ]
      refine q_of (v := .pointer (some ⟨b, off + k, none⟩)) rfl (y_index (n := l.length) rfl rfl rfl hlt) ?_
      simp only [Act.put, List.setIfInBounds_toArray, List.set_cons_zero, List.set_cons_succ]
      refine q_of (v := .int .i64 x) rfl (y_load3 rfl rfl (fun w' h => (h.cell (p := ⟨b, off + k, none⟩) (Nat.lt_of_lt_of_le hbl hb.size)).trans hck)) ?_
      simp only [Act.put, List.setIfInBounds_toArray, List.set_cons_zero, List.set_cons_succ]
      refine q_call own18 rfl (args := #[.agg #[.slice B m.length d], .int .i64 x]) (v := .bool (inL m x)) rfl (fun w' h => (RHas B d m x w' hm ((HM.out.below hb).below h)).mono fun _ _ ⟨he, hb2⟩ => ⟨he, Cl.trans (w := wr) h hb2⟩) ?_
      simp only [Act.put, List.setIfInBounds_toArray, List.set_cons_zero, List.set_cons_succ]
      refine q_of (v := .bool bb) rfl (y_move rfl rfl) ?_
      simp only [Act.put, List.setIfInBounds_toArray, List.set_cons_zero, List.set_cons_succ]
      refine q_of (v := .bool (inL m x == bb)) rfl (y_eqlB rfl rfl rfl rfl) ?_
      simp only [Act.put, List.setIfInBounds_toArray, List.set_cons_zero, List.set_cons_succ]
      refine wpQuiet_nil ?_
      intro w2 hc2
      have hb' : Below w.heap.size w w2 := Below.trans hb (Below.mono hc2 hb.size)
      have hz' : w.heap.size + 3 ≤ w2.heap.size := by have := hc2.size; omega
      have b1' := b1.bel b1.lt w2 hc2
      have b2' := b2.bel b2.lt w2 hc2
      have b3' := b3.bel b3.lt w2 hc2
      have hown' := own_below hown hc2
      have hck' : w2.cell? ⟨b, off + k, none⟩ = some (.int .i64 x) := (hc2.cell (p := ⟨b, off + k, none⟩) (Nat.lt_of_lt_of_le hbl hb.size)).trans hck
      clear hown hb hz b1 b2 b3 x1 hck hc2
      have x1 := b1'.cell
      cases he : (inL m x == bb) with
      | false =>
        have HE := Lib.hid (HW.out.trans (by rw [if_neg (by rw [he]; decide), List.append_nil]))
        clear he
        go_wp2
        go_roundw
        case rel => exact ⟨k + 1, by omega, by go_num, by rw [HE.out]; exact hown', hb', hz', b1', b2', b3'⟩
        case measure => simp [intOf]; omega
      | true =>
        have HE := Lib.hid (HW.out.trans (by rw [if_pos he]))
        clear he
        go_wp2_with (first
          | (at_builtin; refine wpList_append_own _ rfl _ _ 22 rfl (w.heap.size + 3) 3 i0 (.int .i64 0) 1 8 Tryd.underlying22 hi hz0 hz1 hz2 rfl (by decide) _ _ _ rfl (hown'.alloc _) ⟨w2.heap.size, 0, none⟩ 1 1 [.int .i64 x] rfl rfl ?c1 ?c2 ?c3 ?c4 ?c5 ?_))
        case c1 =>
          intro j u hj
          match j, hj with
          | 0, hj => simp at hj; subst hj; simp [Addr.add]
        case c2 => intro u hu; simp at hu; subst hu; rfl
        case c3 => unfold maxLen; omega
        case c4 => omega
        case c5 => simp; omega
        intro v' w4 hown4 hgrow4 _
        have hf4 : ∀ q, Value.ownBlock _ = some q → w.heap.size + 3 ≤ q := fun q hq => (hown'.lt q hq).1
        have hb4 : Below w.heap.size w w4 := (hb'.alloc hb'.size _).grown hgrow4 (by have := hb'.size; simp; omega) (fun q hq => by have := hf4 q hq; omega)
        have hz4 : w.heap.size + 3 ≤ w4.heap.size := by have := hgrow4.size; simp at this; omega
        have keep : ∀ g v, g < w.heap.size + 3 → Blk1 w2 g v → Blk1 w4 g v := fun g v hg h => (hgrow4.block _ (by simp; omega) (fun e => by have := hf4 _ e.symm; omega)).trans ((Below.heap_alloc _ _ _ (by omega)).trans h)
        have b14 := keep _ _ (by omega) b1'
        have b24 := keep _ _ (by omega) b2'
        have b34 := keep _ _ (by omega) b3'
        have hown5 : w4.ownsRow (w.heap.size + 3) 3 1 v' (pt m bb (l.take (k + 1))).length ((pt m bb (l.take (k + 1))).map (Value.int .i64)) := by
          rw [HE.out]; simpa using hown4
        clear hown4 hgrow4 hown' hb' hz' b1' b2' b3' x1 hck' hf4 keep
        go_wp2
        go_roundw
        case rel => exact ⟨k + 1, by omega, by go_num, hown5, hb4, hz4, b14, b24, b34⟩
        case measure => simp [intOf]; omega
    · have hlz : ¬ (k : Int) < (l.length : Int) := by omega
      have hown2 := hown
      rw [List.take_of_length_le (by omega)] at hown2
      obtain ⟨A', c', rfl, hRL⟩ := own_RL hown2
      have hbk : ∀ b off, A' = some ⟨b, off, none⟩ → b ≠ w.heap.size + 1 + 1 := fun b off e => by
        have := (hown.lt b (by rw [e]; rfl)).1; omega
      have c3 := b3.cell
      have f3 := b3.frozen
      clear hown
      go_wp2
      exact ret30 rfl rfl rfl (b3.set_ _) ⟨A', c', rfl, hRL.setCell hbk _, hb.setCell (by show w.heap.size ≤ w.heap.size + 1 + 1; omega) _⟩
end Go.Proofs.YtabdhmfjbielaaaDoor
