/- PROVED here: the contract of the document's Shaped. No condition but those in each theorem's own head. -/
import Derived.Test.YtcnmkmdedeiffaaTg
import Derived.Test.YtcnmkmdedeiffaaR
import Derived.Test.YtcnmkmdedeiffaaTi
import Derived.Test.YtcnmkmdedeiffaaTl
import Derived.Test.YtcnmkmdedeiffaaTo
namespace Go.Proofs.Ytcnmkmdedeiffaa
open Go Go.RowKit

/-- has a node the shape of its kind -/
def ndB (l : List Nd) (x : Nd) : Bool := decide (1 ≤ x.kd) && (decide (x.kd ≤ 27) && (txB x.kd x.tx.data.toList && (numB x.kd x.n && kidB x.kd (x.ks.map fun k => (nth l k.toNat).kd))))
def shB (l : List Nd) : Bool := l.all (ndB l)
theorem own_cap {base n size : Nat} {e : TypeId} {A : Option Addr} {c : Nat} {ls : List Value} {w : World} (h : w.ownsRow base e size (.slice A n c) n ls) : n ≤ c := by
  rcases h.2 with ⟨e1, e2⟩ | ⟨g, cap, cur, e1, _, _, h3, _⟩
  · omega
  · cases e1; exact h3
theorem below_drew1 (w : World) : Below w.heap.size w w.drew := ⟨rfl, rfl, rfl, Nat.le_refl _, fun _ _ => rfl⟩
section
variable {Q : Exit → Act → World → Prop} {a : Act} {w : World} {o : Oper}
theorem build_wp {K : Act → World → Prop} {x : Operand} {kk : Int} (ho : o.op = .buildSlice 22 1 #[(0, x)]) (hx : a.eval x = .int .i64 kk) (h : K (a.put o.dst (.slice (some ⟨w.heap.size, 0, none⟩) 1 1)) (w.alloc (.cells #[.int .i64 kk] 3))) : o.wp Try.prog a w K Q := by
  unfold Oper.wp execOp
  simp only [ho, List.map_toArray, List.map_cons, List.map_nil, hx]
  simp [go_sem]
  exact h
theorem y_assign {S : World → Prop} {x : Operand} {v : Value} (ho : o.op = .assign x) (hx : a.eval x = v) : ∀ w, S w → (execOp a.eval o).run Try.prog w = .ok (.value v) w := fun w _ => by unfold execOp; simp only [ho, hx, Sem.run_pure]
end
set_option maxRecDepth 100000 in
set_option maxHeartbeats 1500000 in
theorem rshaped_any (A : Option Addr) (c n : Nat) (l : List Nd) (r : Int) (w : World) (hN : Nds w A l) (hn : n = l.length) (hk : ∀ x ∈ l, x.ks.length ≤ 4000) (hl : n ≤ 4000) (ht : ∀ x ∈ l, x.tx.size ≤ 281474976710656) (hR : ∀ x ∈ l, ∀ k ∈ x.ks, ∃ m : Nat, k = m ∧ m < l.length) : Calls Try.prog 30 #[.agg #[.slice A n c, .int .i64 r]] w (BPost (shB l) w) := by
  obtain ⟨j0, ji, jz0, jz1, jz2⟩ := info_parts info3
  have e0 : ∀ (w' : World) (o : Obj), (w'.alloc o).heap.size = w'.heap.size + 1 := fun w' o => World.size_alloc w' o
  have HN := Lib.hid hN
  have HL := Lib.hid hn
  have HK := Lib.hid hk
  have HT := Lib.hid ht
  have HR := Lib.hid hR
  clear hN hn hk ht hR
  go_enter Try.func30, Try.ntmps30
  go_wp2
  go_loopw [3] (fun i wr => ∃ p : Nat, p ≤ n ∧ i = .int .i64 (p : Int) ∧ (l.take p).all (ndB l) = true ∧ Bx wr w.heap.size 30 [.slice A n c, .int .i64 r] ∧ Below w.heap.size w wr) (fun i _ => n - (intOf i).toNat)
  case atStart => exact ⟨0, Nat.zero_le _, rfl, rfl, Bx.new w 30 _, heap1 _ _⟩
  case round =>
    obtain ⟨p, hp, rfl, hall, hBt, hbw⟩ := hrel
    have HA := Lib.hid hall
    clear hall
    obtain ⟨W1, rfl⟩ : ∃ W1, W1 = wr := ⟨_, rfl⟩
    have d0 := hBt.cell 0
    simp only [List.getElem?_cons_zero] at d0
    by_cases hlt : p < n
    · have hlz : (p : Int) < (n : Int) := by omega
      have hpl : p < l.length := by rw [← HL.out]; exact hlt
      obtain ⟨bA, off, rfl, hbl, hc⟩ := HN.out (by omega)
      obtain ⟨K, ck, a0, a1, a2, a3, a4, hI⟩ := hc p hpl
      have HKC := Lib.hid (fun (m : Nat) (hm : m < l.length) => (hc m hm).elim fun K h => h.elim fun c h => h.1)
      have hks := HK.out _ (List.getElem_mem hpl)
      have hts := HT.out _ (List.getElem_mem hpl)
      have HRK := Lib.hid (HR.out _ (List.getElem_mem hpl))
      have HTP := Lib.hid (show l.take (p + 1) = l.take p ++ [l[p]] from List.take_succ_eq_append_getElem hpl)
      have HNO := Lib.hid (show ndB l l[p] = false → shB l = false from fun h => by
        unfold shB; rw [List.all_eq_false]; exact ⟨l[p], List.getElem_mem _, by simp [h]⟩)
      clear hc
      generalize l[p] = x at *
      obtain ⟨xk, xn, xp, xt, ks⟩ := x
      dsimp only at a0 a1 a2 a3 a4 hI hks hts HRK
      have a0 := (hbw.cell (p := ⟨bA, off + p * 5, none⟩) hbl).trans a0
      have a1 := (hbw.cell (p := ⟨bA, off + p * 5 + 1, none⟩) hbl).trans a1
      have a2 := (hbw.cell (p := ⟨bA, off + p * 5 + 2, none⟩) hbl).trans a2
      have a3 := (hbw.cell (p := ⟨bA, off + p * 5 + 3, none⟩) hbl).trans a3
      have a4 := (hbw.cell (p := ⟨bA, off + p * 5 + 4, none⟩) hbl).trans a4
      have HI := Lib.hid hI
      have HBW := Lib.hid (And.intro hBt hbw)
      have hwz : w.heap.size < W1.heap.size := hBt.lt
      clear hI hBt hbw
      go_wp2
      obtain ⟨kq, hkq⟩ : ∃ kq, kq = ks.map (fun k => (nth l k.toNat).kd) := ⟨_, rfl⟩
      have HKQ := Lib.hid hkq
      have HND := Lib.hid (show ndB l ⟨xk, xn, xp, xt, ks⟩ = (decide (1 ≤ xk) && (decide (xk ≤ 27) && (txB xk xt.data.toList && (numB xk xn && kidB xk kq)))) by rw [hkq]; rfl)
      clear hkq
      obtain ⟨W2, hW2⟩ : ∃ W2, W1.alloc (.cells #[.int .i64 xk, .int .i64 xn, .int .i64 xp, .string xt, .slice K ks.length ck] 24) = W2 := ⟨_, rfl⟩
      have HW2 := Lib.hid (show Below W1.heap.size W1 W2 ∧ Bx W2 W1.heap.size 24 [.int .i64 xk, .int .i64 xn, .int .i64 xp, .string xt, .slice K ks.length ck] ∧ W2.heap.size = W1.heap.size + 1 by
        rw [← hW2]; exact ⟨heap1 _ _, Bx.new W1 24 _, e0 _ _⟩)
      rw [hW2]
      clear hW2 a0 a1 a2 a3 a4 d0
      go_loopw [5, 6] (fun lv i wr => ∃ j : Nat, j ≤ ks.length ∧ i = .int .i64 (j : Int) ∧ wr.ownsRow W2.heap.size 3 1 lv j (iv (kq.take j)) ∧ Below W2.heap.size W2 wr) (fun _ i _ => ks.length - (intOf i).toNat)
      case atStart => exact ⟨0, Nat.zero_le _, rfl, World.ownsRow_nil _ _ _ _, Below.refl _ _⟩
      case round =>
        obtain ⟨j, hj, rfl, hol, hbl2⟩ := hrel
        obtain ⟨VL, cL, rfl⟩ := own_sliceG hol
        obtain ⟨W3, rfl⟩ : ∃ W3, W3 = wr := ⟨_, rfl⟩
        obtain ⟨hb12, hBX, hsz0⟩ := HW2.out
        have hb13 := bt hb12 hbl2
        have hbw3 := bt HBW.out.2 hb13
        have hBX2 := hBX.below hbl2 hBX.lt
        have hBt3 := HBW.out.1.below hb13 HBW.out.1.lt
        have HSZ := Lib.hid hsz0
        have hz3 := hbl2.size
        clear hsz0 hb12 hBX hb13
        have x4 := hBX2.cell 4
        have d0 := hBt3.cell 0
        simp only [List.getElem?_cons_zero, List.getElem?_cons_succ] at x4 d0
        by_cases hjl : j < ks.length
        · have hjz : (j : Int) < (ks.length : Int) := by omega
          obtain ⟨bK, oK, rfl, hbK, hcK⟩ := HI.out (by omega)
          obtain ⟨m, hm, hml⟩ := HRK.out ks[j] (List.getElem_mem hjl)
          have hb02 := bt HBW.out.2 HW2.out.1
          have t0 := (HBW.out.1.below HW2.out.1 HBW.out.1.lt).cell 0
          have t4 := HW2.out.2.1.cell 4
          simp only [List.getElem?_cons_zero, List.getElem?_cons_succ] at t0 t4
          have hck := (hb02.cell (p := ⟨bK, oK + j, none⟩) hbK).trans (hcK j hjl)
          rw [hm] at hck
          have hmn : m < n := by rw [HL.out]; exact hml
          have hkc := (hb02.cell (p := ⟨bA, off + m * 5, none⟩) hbl).trans (HKC.out m hml)
          have HTJ := Lib.hid (show kq.take (j + 1) = kq.take j ++ [l[m].kd] by
            have hjq : j < kq.length := by rw [HKQ.out, List.length_map]; exact hjl
            rw [List.take_succ_eq_append_getElem hjq]
            congr 2
            simp only [HKQ.out, List.getElem_map, hm, Int.toNat_natCast, nth_eq hml])
          clear hcK hm
          generalize l[m].kd = kk at *
          have hzA : w.heap.size < W2.heap.size := by have := HSZ.out; omega
          have hzB : W1.heap.size < W2.heap.size := by have := HSZ.out; omega
          have hzK : bK < W2.heap.size := by omega
          have hzN : bA < W2.heap.size := by omega
          clear d0 hBX2 hBt3 hbw3 hz3
          go_upto_region 9 with (fail)
          clear x4
          refine wp_region_held (S := fun w' => Below W2.heap.size W2 w') (by kernel_rfl) ?_
          have hS : Below W2.heap.size W2 { W3 with drawn := W3.drawn + 1 } := bdrew hbl2
          have hol := own_belowG (w' := { W3 with drawn := W3.drawn + 1 }) hol (below_drew1 W3)
          clear hbl2
          generalize ({ W3 with drawn := W3.drawn + 1 } : World) = W5 at *
          refine h_pure 0 ({ dst := some 29, op := Op.move (Operand.tmp 5), type := 22, pos := "ref.go:244", after := #[], guard := none } : Oper) (.slice VL j cL) (by kernel_rfl) rfl (by kernel_rfl) (by kernel_rfl) (fun _ _ _ h => h) rfl (y_move rfl rfl) hS ?_
          simp only [Act.put, List.setIfInBounds_toArray, List.set_cons_zero, List.set_cons_succ]
          refine h_pure 1 ({ dst := some 30, op := Op.fieldAddr 30 (Operand.tmp 1) 0, type := 0, pos := "ref.go:244", after := #[], guard := none } : Oper) (.pointer (some ⟨w.heap.size, 0, none⟩)) (by kernel_rfl) rfl (by kernel_rfl) (by kernel_rfl) (fun _ _ _ h => h) rfl (y_field rfl rfl (run_field30_0 _)) hS ?_
          simp only [Act.put, List.setIfInBounds_toArray, List.set_cons_zero, List.set_cons_succ]
          refine h_pure 2 ({ dst := some 31, op := Op.load 28 (Operand.tmp 30), type := 28, pos := "ref.go:244", after := #[{ on := 1, ground := Ground.data }], guard := none } : Oper) (.slice (some ⟨bA, off, none⟩) n c) (by kernel_rfl) rfl (by kernel_rfl) (by kernel_rfl) (fun _ _ _ h => h) rfl (y_load rfl rfl (fun w' h => run_load28 ((Below.cell h (p := ⟨w.heap.size, 0, none⟩) hzA).trans t0))) hS ?_
          simp only [Act.put, List.setIfInBounds_toArray, List.set_cons_zero, List.set_cons_succ]
          refine h_pure 3 ({ dst := some 32, op := Op.fieldAddr 24 (Operand.tmp 4) 4, type := 0, pos := "ref.go:244", after := #[], guard := none } : Oper) (.pointer (some ⟨W1.heap.size, 4, none⟩)) (by kernel_rfl) rfl (by kernel_rfl) (by kernel_rfl) (fun _ _ _ h => h) rfl (y_field rfl rfl (run_field24_4 _ 0)) hS ?_
          simp only [Act.put, List.setIfInBounds_toArray, List.set_cons_zero, List.set_cons_succ]
          refine h_pure 4 ({ dst := some 33, op := Op.load 22 (Operand.tmp 32), type := 22, pos := "ref.go:244", after := #[{ on := 3, ground := Ground.data }], guard := none } : Oper) (.slice (some ⟨bK, oK, none⟩) ks.length ck) (by kernel_rfl) rfl (by kernel_rfl) (by kernel_rfl) (fun _ _ _ h => h) rfl (y_load rfl rfl (fun w' h => run_load22 ((Below.cell h (p := ⟨W1.heap.size, 4, none⟩) hzB).trans t4))) hS ?_
          simp only [Act.put, List.setIfInBounds_toArray, List.set_cons_zero, List.set_cons_succ]
          refine h_pure 5 ({ dst := some 34, op := Op.move (Operand.tmp 6), type := 3, pos := "ref.go:244", after := #[], guard := none } : Oper) (.int .i64 (j : Int)) (by kernel_rfl) rfl (by kernel_rfl) (by kernel_rfl) (fun _ _ _ h => h) rfl (y_move rfl rfl) hS ?_
          simp only [Act.put, List.setIfInBounds_toArray, List.set_cons_zero, List.set_cons_succ]
          refine h_pure 6 ({ dst := some 35, op := Op.indexAddr 22 (Operand.tmp 33) (Operand.tmp 34), type := 0, pos := "ref.go:244", after := #[{ on := 4, ground := Ground.data }, { on := 5, ground := Ground.data }], guard := none } : Oper) (.pointer (some ⟨bK, oK + j, none⟩)) (by kernel_rfl) rfl (by kernel_rfl) (by kernel_rfl) (fun _ _ _ h => h) rfl (y_index rfl rfl rfl (run_index22 _ _ _ _ _ hjl)) hS ?_
          simp only [Act.put, List.setIfInBounds_toArray, List.set_cons_zero, List.set_cons_succ]
          refine h_pure 7 ({ dst := some 36, op := Op.load 3 (Operand.tmp 35), type := 3, pos := "ref.go:244", after := #[{ on := 6, ground := Ground.data }], guard := none } : Oper) (.int .i64 (m : Int)) (by kernel_rfl) rfl (by kernel_rfl) (by kernel_rfl) (fun _ _ _ h => h) rfl (y_load rfl rfl (fun w' h => run_load3 ((Below.cell h (p := ⟨bK, oK + j, none⟩) hzK).trans hck))) hS ?_
          simp only [Act.put, List.setIfInBounds_toArray, List.set_cons_zero, List.set_cons_succ]
          refine h_pure 8 ({ dst := some 37, op := Op.indexAddr 28 (Operand.tmp 31) (Operand.tmp 36), type := 0, pos := "ref.go:244", after := #[{ on := 2, ground := Ground.data }, { on := 7, ground := Ground.data }], guard := none } : Oper) (.pointer (some ⟨bA, off + m * 5, none⟩)) (by kernel_rfl) rfl (by kernel_rfl) (by kernel_rfl) (fun _ _ _ h => h) rfl (y_index rfl rfl rfl (run_index28 _ _ _ _ _ hmn)) hS ?_
          simp only [Act.put, List.setIfInBounds_toArray, List.set_cons_zero, List.set_cons_succ]
          refine h_pure 9 ({ dst := some 38, op := Op.fieldAddr 24 (Operand.tmp 37) 0, type := 0, pos := "ref.go:244", after := #[{ on := 8, ground := Ground.data }], guard := none } : Oper) (.pointer (some ⟨bA, off + m * 5, none⟩)) (by kernel_rfl) rfl (by kernel_rfl) (by kernel_rfl) (fun _ _ _ h => h) rfl (y_field rfl rfl (run_field24_0 _ _)) hS ?_
          simp only [Act.put, List.setIfInBounds_toArray, List.set_cons_zero, List.set_cons_succ]
          refine h_pure 10 ({ dst := some 39, op := Op.load 3 (Operand.tmp 38), type := 3, pos := "ref.go:244", after := #[{ on := 9, ground := Ground.data }], guard := none } : Oper) (.int .i64 kk) (by kernel_rfl) rfl (by kernel_rfl) (by kernel_rfl) (fun _ _ _ h => h) rfl (y_load rfl rfl (fun w' h => run_load3 ((Below.cell h (p := ⟨bA, off + m * 5, none⟩) hzN).trans hkc))) hS ?_
          simp only [Act.put, List.setIfInBounds_toArray, List.set_cons_zero, List.set_cons_succ]
          refine h_one 11 ({ dst := some 40, op := Op.buildSlice 22 1 #[(0, Operand.tmp 39)], type := 22, pos := "ref.go:244", after := #[{ on := 10, ground := Ground.data }], guard := none } : Oper) rfl (by kernel_rfl) rfl ?_
          refine build_wp (o := ({ dst := some 40, op := Op.buildSlice 22 1 #[(0, Operand.tmp 39)], type := 22, pos := "ref.go:244", after := #[{ on := 10, ground := Ground.data }], guard := none } : Oper)) rfl rfl ?_
          refine ⟨hS.alloc hS.size _, ?_⟩
          simp only [Act.put, List.setIfInBounds_toArray, List.set_cons_zero, List.set_cons_succ]
          refine h_one 12 ({ dst := some 41, op := Op.call { callee := Callee.builtin Builtin.append, args := #[Operand.tmp 29, Operand.tmp 40], argTypes := #[22, 22] }, type := 22, pos := "ref.go:244", after := #[{ on := 0, ground := Ground.data }, { on := 11, ground := Ground.data }], guard := none } : Oper) rfl (by kernel_rfl) rfl ?_
          refine wp_append_own (o := ({ dst := some 41, op := Op.call { callee := Callee.builtin Builtin.append, args := #[Operand.tmp 29, Operand.tmp 40], argTypes := #[22, 22] }, type := 22, pos := "ref.go:244", after := #[{ on := 0, ground := Ground.data }, { on := 11, ground := Ground.data }], guard := none } : Oper)) _ _ _ 22 rfl W2.heap.size 3 j0 (.int .i64 0) 1 8 Try.underlying22 ji jz0 jz1 jz2 rfl (by decide) _ _ _ rfl (own_belowG hol (heap1 W5 _)) ⟨W5.heap.size, 0, none⟩ 1 1 [.int .i64 kk] rfl rfl (blk_cells W5 [.int .i64 kk] 3) (one1 _) ?c3 ?c4 ?c5 ?_
          case c3 => unfold maxLen; omega
          case c4 => omega
          case c5 => rw [e0]; have := hS.size; omega
          intro v' w4 hown4 hgrow4 _
          have hown5 : w4.ownsRow W2.heap.size 3 1 v' (j + 1) (iv (kq.take (j + 1))) := by rw [HTJ.out, iv_app]; exact hown4
          have hb5 : Below W2.heap.size W2 w4 := (hS.alloc hS.size _).grown hgrow4 (by rw [e0]; have := hS.size; omega) (fun b hb => by have := (hol.lt b hb).1; omega)
          clear hown4 hgrow4 hol
          refine ⟨hb5, ?_⟩
          simp only [Act.put, List.setIfInBounds_toArray, List.set_cons_zero, List.set_cons_succ]
          refine h_pure 13 ({ dst := some 5, op := Op.assign (Operand.tmp 41), type := 22, pos := "ref.go:244", after := #[{ on := 12, ground := Ground.data }, { on := 12, ground := Ground.chain }, { on := 0, ground := Ground.phase }, { on := 1, ground := Ground.phase }, { on := 2, ground := Ground.phase }, { on := 3, ground := Ground.phase }, { on := 4, ground := Ground.phase }, { on := 5, ground := Ground.phase }, { on := 6, ground := Ground.phase }, { on := 7, ground := Ground.phase }, { on := 8, ground := Ground.phase }, { on := 9, ground := Ground.phase }, { on := 10, ground := Ground.phase }, { on := 11, ground := Ground.phase }, { on := 12, ground := Ground.phase }], guard := none } : Oper) v' (by kernel_rfl) rfl (by kernel_rfl) (by kernel_rfl) (fun _ _ _ h => h) rfl (y_assign rfl rfl) hb5 ?_
          simp only [Act.put, List.setIfInBounds_toArray, List.set_cons_zero, List.set_cons_succ]
          refine wpAnyH_done (by kernel_rfl) ?_ _
          go_wp2
          go_roundw
          case rel => exact ⟨j + 1, by omega, by go_num, hown5, hb5⟩
          case measure => simp [intOf]; omega
        · obtain rfl : j = ks.length := by omega
          have hjz : ¬ (ks.length : Int) < (ks.length : Int) := by omega
          rw [List.take_of_length_le (by rw [HKQ.out, List.length_map]; omega)] at hol
          have hcap := own_cap hol
          obtain ⟨KL, cL', eL, hIL, _, _⟩ := own3 (by rw [HKQ.out, List.length_map]) hol
          obtain ⟨rfl, rfl⟩ : VL = KL ∧ cL = cL' := by cases eL; exact ⟨rfl, rfl⟩
          have HIL := Lib.hid hIL
          have HC1 := Lib.hid (fun w' => texts_any xk xn xp xt K ks.length ck w' hts)
          have HC2 := Lib.hid (fun w' => numbers_any xk xn xp xt K ks.length ck w')
          have HC3 := Lib.hid (fun w' (h : Ints w' VL kq) => kids_any xk VL ks.length cL kq w' h (by rw [HKQ.out, List.length_map]) hks hcap)
          generalize txB xk xt.data.toList = tB at *
          generalize numB xk xn = nB at *
          generalize kidB xk kq = kB at *
          have b0 := hBX2.cell 0
          have b1 := hBX2.cell 1
          have b2 := hBX2.cell 2
          have b3 := hBX2.cell 3
          simp only [List.getElem?_cons_zero, List.getElem?_cons_succ] at b0 b1 b2 b3
          clear hol eL hIL d0 hbl2
          go_wp2_with (go_at_call 33; refine (HC1.out _).mono ?_)
          rintro e w5 ⟨rfl, hb5⟩
          have hBX5 := hBX2.below hb5 hBX2.lt
          have hBt5 := hBt3.below hb5 hBt3.lt
          have hb35 := bt hbw3 hb5
          have HI5 := Lib.hid (HIL.out.below hb5)
          clear x4 b0 b1 b2 b3 hBX2 hBt3 hbw3 hb5 HIL HC1 hz3
          have b0 := hBX5.cell 0
          have b1 := hBX5.cell 1
          have b2 := hBX5.cell 2
          have b3 := hBX5.cell 3
          have b4 := hBX5.cell 4
          simp only [List.getElem?_cons_zero, List.getElem?_cons_succ] at b0 b1 b2 b3 b4
          go_wp2_with (go_at_call 34; refine (HC2.out _).mono ?_)
          rintro e w6 ⟨rfl, hb6⟩
          have hBX6 := hBX5.below hb6 hBX5.lt
          have hBt6 := hBt5.below hb6 hBt5.lt
          have hb36 := bt hb35 hb6
          have HI6 := Lib.hid (HI5.out.below hb6)
          clear b0 b1 b2 b3 b4 hBX5 hBt5 hb35 hb6 HI5 HC2
          have b0 := hBX6.cell 0
          simp only [List.getElem?_cons_zero] at b0
          go_wp2_with (go_at_call 35; refine (HC3.out _ HI6.out).mono ?_)
          rintro e w7 ⟨rfl, hb7'⟩
          have hBX7 := hBX6.below hb7' hBX6.lt
          have hBt7 := hBt6.below hb7' hBt6.lt
          have hb7 := bt hb36 hb7'
          clear b0 hBX6 hBt6 hb36 hb7' HI6 HC3
          have b0 := hBX7.cell 0
          simp only [List.getElem?_cons_zero] at b0
          by_cases g1 : xk < 1
          · have q1 : decide (xk < 1) = true := decide_eq_true g1
            have HFALSE := Lib.hid (HNO.out (by rw [HND.out, decide_eq_false (show ¬ 1 ≤ xk by omega)]; rfl))
            go_wp2
            go_ret
            exact ⟨ret_bool HFALSE.out.symm, hb7⟩
          · have q1 : decide (xk < 1) = false := decide_eq_false g1
            by_cases g2 : 27 < xk
            · have q2 : decide (27 < xk) = true := decide_eq_true g2
              have HFALSE := Lib.hid (HNO.out (by rw [HND.out, decide_eq_false (show ¬ xk ≤ 27 by omega)]; simp))
              go_wp2
              go_ret
              exact ⟨ret_bool HFALSE.out.symm, hb7⟩
            · have q2 : decide (27 < xk) = false := decide_eq_false g2
              have h1k : 1 ≤ xk := by omega
              have h2k : xk ≤ 27 := by omega
              rw [decide_eq_true h1k, decide_eq_true h2k, Bool.true_and, Bool.true_and] at HND
              clear h1k h2k
              cases tB with
              | false =>
                have HFALSE := Lib.hid (HNO.out (by rw [HND.out]; rfl))
                go_wp2
                go_ret
                exact ⟨ret_bool HFALSE.out.symm, hb7⟩
              | true =>
                cases nB with
                | false =>
                  have HFALSE := Lib.hid (HNO.out (by rw [HND.out]; rfl))
                  go_wp2
                  go_ret
                  exact ⟨ret_bool HFALSE.out.symm, hb7⟩
                | true =>
                  cases kB with
                  | false =>
                    have HFALSE := Lib.hid (HNO.out (by rw [HND.out]; rfl))
                    go_wp2
                    go_ret
                    exact ⟨ret_bool HFALSE.out.symm, hb7⟩
                  | true =>
                    have HYES := Lib.hid HND.out
                    go_wp2
                    go_roundw
                    case rel =>
                      refine ⟨p + 1, by omega, by go_num, ?_, hBt7, hb7⟩
                      rw [HTP.out, List.all_append, HA.out]
                      simp [HYES.out]
                    case measure => simp [intOf]; omega
    · obtain rfl : p = n := by omega
      have hlz : ¬ (p : Int) < (p : Int) := by omega
      have HE := Lib.hid (show shB l = true by have := HA.out; rw [HL.out, List.take_length] at this; exact this)
      go_wp2
      go_ret
      exact ⟨ret_bool HE.out.symm, hbw⟩
end Go.Proofs.Ytcnmkmdedeiffaa
