/- PROVED here: the walk of TreeOvers. No condition but those in each theorem's own head. -/
import Derived.Test.YtcnmkmdedeiffaaOa
import Derived.Test.YtcnmkmdedeiffaaZ
import Derived.Test.YtcnmkmdedeiffaaU
namespace Go.Proofs.Ytcnmkmdedeiffaa
open Go Go.RowKit

set_option maxRecDepth 100000 in
set_option maxHeartbeats 1500000 in
theorem treeOvers_any (x : Nd) (K : Option Addr) (ck : Nat) (A : Option Addr) (c m : Nat) (ts : List Tr) (w : World) (_hI : Ints w K x.ks) (hT : Trs w A ts) (hm : m = ts.length) : Calls Try.prog 3 #[.agg #[.int .i64 x.kd, .int .i64 x.n, .int .i64 x.pl, .string x.tx, .slice K x.ks.length ck], .slice A m c] w (TruePost w) := by
  clear _hI
  obtain ⟨kd, nn, pl, tx, ks⟩ := x
  dsimp only
  generalize ks.length = kl at *
  have HT := Lib.hid hT
  have HM := Lib.hid hm
  have hbx := Bx.new w 24 [.int .i64 kd, .int .i64 nn, .int .i64 pl, .string tx, .slice K kl ck]
  have hb0 := heap1 w (.cells #[.int .i64 kd, .int .i64 nn, .int .i64 pl, .string tx, .slice K kl ck] 24)
  have H0 := Lib.hid (And.intro hbx hb0)
  clear hT hm hbx hb0
  go_enter Try.func3, Try.ntmps3
  go_wp2_with (go_at_call 8; refine (shown_any _).mono ?_)
  rintro e w1 ⟨rfl, hb1⟩
  obtain ⟨hx0, hb0⟩ := H0.out
  have hx1 := hx0.below hb1 hx0.lt
  have hbb := bt hb0 hb1
  clear H0 hx0 hb0 hb1
  have HSM := Lib.hid (small_any A m c ts w1 (HT.out.below hbb) HM.out)
  have H1 := Lib.hid (And.intro hx1 hbb)
  clear hx1 hbb
  go_wp2_with (go_at_call 9; refine HSM.out.mono ?_)
  rintro e w2 ⟨hb4, bb, rfl, hsm⟩
  obtain ⟨hx1, hbb⟩ := H1.out
  have hx2 := hx1.below hb4 hx1.lt
  have hb2 := bt hbb hb4
  clear HSM H1 hx1 hbb hb4
  have HB2 := Lib.hid hb2
  have t3 := hx2.cell 3
  simp only [List.getElem?_cons_zero, List.getElem?_cons_succ] at t3
  cases bb with
  | false =>
    clear hsm
    go_wp2
    go_ret
    exact ⟨rfl, HB2.out⟩
  | true =>
    by_cases htx : (200 : Int) < (tx.size : Int)
    · have hd : decide ((200 : Int) < (tx.size : Int)) = true := decide_eq_true htx
      clear hsm
      go_wp2
      go_ret
      exact ⟨rfl, HB2.out⟩
    · have hd : decide ((200 : Int) < (tx.size : Int)) = false := decide_eq_false htx
      obtain ⟨hm30, hok⟩ := hsm rfl
      clear hsm
      have hm30' : m ≤ 30 := by rw [HM.out]; exact hm30
      have HTS := Lib.hid (show ∀ t ∈ ts, t.1.length ≤ 4000 ∧ ∀ x ∈ t.1, x.ks.length ≤ 4000 from fun t ht => ⟨by have := (hok t ht).1; omega, fun x hx => by have := ((hok t ht).2 x hx).1; omega⟩)
      have HLE := Lib.hid (show ∀ i, (ovA (ts.take i)).length ≤ 10000000 from fun i => by
        have h1 := ovA_le (m := 200) (ts := ts.take i) (fun t ht => (hok t (List.mem_of_mem_take ht)).1)
        have h2 : (ts.take i).length ≤ 30 := by rw [List.length_take]; omega
        omega)
      have HLA := Lib.hid (show (ovA ts).length ≤ 6000 by have h1 := ovA_le (m := 200) (ts := ts) (fun t ht => (hok t ht).1); omega)
      have HKS := Lib.hid (show ∀ x ∈ ovL kd nn pl tx ts, x.ks.length ≤ 4000 from ovL_ks (fun t ht x hx => by have := ((hok t ht).2 x hx).1; omega) (by omega))
      clear hok hm30
      have b0 := hx2.cell 0
      have b1 := hx2.cell 1
      have b2 := hx2.cell 2
      have b4 := hx2.cell 4
      simp only [List.getElem?_cons_zero, List.getElem?_cons_succ] at b0 b1 b2 b4
      have HOV := Lib.hid (over_any kd nn pl tx K kl ck A m c ts w2 (HT.out.below hb2) HM.out (by omega) HTS.out (by have := HLA.out; omega) HLE.out)
      have HX2 := Lib.hid hx2
      clear hx2
      obtain ⟨L, hL⟩ : ∃ L, L = ovL kd nn pl tx ts := ⟨_, rfl⟩
      obtain ⟨R, hR⟩ : ∃ R : Int, R = ((ovA ts).length : Int) := ⟨_, rfl⟩
      obtain ⟨N, hN⟩ : ∃ N, N = L.length := ⟨_, rfl⟩
      have HWK := Lib.hid (show Wok L by rw [hL]; exact ovL_wok _ _ _ _ _)
      have HNL := Lib.hid (show N ≤ 6001 by rw [hN, hL]; unfold ovL; rw [List.length_append]; show _ + 1 ≤ _; have := HLA.out; omega)
      rw [← hL, ← hR] at HOV
      rw [← hL] at HKS
      have HLL := Lib.hid hL
      have HRR := Lib.hid hR
      have HNN := Lib.hid hN
      clear hL hR hN
      go_wp2_with (go_at_call 10; refine HOV.out.mono ?_)
      rintro e w3 ⟨Aa, ca, rfl, hNa, hca, hb5⟩
      clear HOV b0 b1 b2 t3 b4
      rw [← HNN.out]
      have hx3 := (HX2.out.below hb5 HX2.out.lt).alloc (.cells #[.slice Aa N ca, .int .i64 R] 30)
      have hA3 := Bx.new w3 30 [.slice Aa N ca, .int .i64 R]
      have hNa3 := hNa.below (heap1 w3 (.cells #[.slice Aa N ca, .int .i64 R] 30))
      have hb6 := (bt hb2 hb5).alloc (bt hb2 hb5).size (.cells #[.slice Aa N ca, .int .i64 R] 30)
      have b0 := hx3.cell 0
      have b1 := hx3.cell 1
      have b2 := hx3.cell 2
      have b3 := hx3.cell 3
      have b4 := hx3.cell 4
      simp only [List.getElem?_cons_zero, List.getElem?_cons_succ] at b0 b1 b2 b3 b4
      have HRO := Lib.hid (rover_any kd nn pl tx K kl ck A m c ts _ (HT.out.below hb6) HM.out (by omega) HTS.out HLE.out)
      rw [← HLL.out, ← HRR.out] at HRO
      have H3 := Lib.hid (And.intro hA3 (And.intro hNa3 hb6))
      clear hx3 hA3 hNa hNa3 hb5 hb6 hb2 HX2
      go_wp2_with (go_at_call 11; refine HRO.out.mono ?_)
      rintro e w4 ⟨Ab, cb, rfl, hNb, hcb, hb7, hkn⟩
      clear HRO b0 b1 b2 b3 b4
      rw [← HNN.out]
      go_upto_region 7 with (fail)
      refine gen_world (fun W => Bx W w3.heap.size 30 [.slice Aa N ca, .int .i64 R] ∧ Nds W Aa L ∧ Bx W w4.heap.size 30 [.slice Ab N cb, .int .i64 R] ∧ Nds W Ab L ∧ KN W Ab N ∧ Below w.heap.size w W) ?_ ?_
      · obtain ⟨hA3, hNa3, hb6⟩ := H3.out
        have hbd : ∀ b off, Ab = some ⟨b, off, none⟩ → b < w4.heap.size := fun b off e => by
          obtain ⟨b', off', e', h, _⟩ := hNb (by rw [HLL.out]; unfold ovL; rw [List.length_append]; show 0 < _ + 1; omega)
          rw [e] at e'; cases e'; exact h
        exact ⟨(hA3.below hb7 hA3.lt).alloc _, (hNa3.below hb7).below (heap1 _ _), Bx.new w4 30 _, hNb.below (heap1 _ _), (by rw [HNN.out]; exact hkn.below (heap1 _ _) hbd), (bt hb6 hb7).alloc (bt hb6 hb7).size _⟩
      clear H3 hNb hkn hb7
      obtain ⟨g7, hg7⟩ : ∃ g7, g7 = w3.heap.size := ⟨_, rfl⟩
      obtain ⟨g8, hg8⟩ : ∃ g8, g8 = w4.heap.size := ⟨_, rfl⟩
      rw [← hg7, ← hg8]
      clear hg7 hg8
      rintro wr ⟨hA, hNA, hB, hNB, hkn, hbw⟩
      have HL1 := Lib.hid (fun (w' : World) (h : Cl wr w') => (like_true Aa Ab ca cb N L R w' (hNA.below h) (hNB.below h) HNN.out (by have := HNL.out; omega) (fun x hx => by have := HKS.out x hx; omega)).mono (R' := fun e w'' => ∃ v, e = .returned v ∧ v = .bool true ∧ Below w'.heap.size w' w'') (fun e w'' ⟨he, hb⟩ => ⟨_, he, rfl, hb⟩))
      have hbd : ∀ b off, Ab = some ⟨b, off, none⟩ → b < wr.heap.size := fun b off e => by
        obtain ⟨b', off', e', h, _⟩ := hNB (by rw [HLL.out]; unfold ovL; rw [List.length_append]; show 0 < _ + 1; omega)
        rw [e] at e'; cases e'; exact h
      have hlm : (L.map brN).length = N := by rw [List.length_map]; exact HNN.out.symm
      have HBA := Lib.hid (fun (w' : World) (h : Cl wr w') => (bare_any Aa ca N L R w' (hNA.below h) HNN.out (by have := HNL.out; omega) HKS.out HWK.out).mono (R' := fun e w'' => ∃ v, e = .returned v ∧ ∃ Ac cc, v = .agg #[.slice Ac N cc, .int .i64 R] ∧ Nds w'' Ac (L.map brN) ∧ Below w'.heap.size w' w'') (fun e w'' ⟨A, c, he, h1, _, h3⟩ => ⟨_, he, A, c, by rw [hlm], h1, h3⟩))
      have HBB := Lib.hid (fun (w' : World) (h : Cl wr w') => (rbare_any Ab cb N L R w' (hNB.below h) HNN.out (by have := HNL.out; omega) HKS.out (hkn.below h hbd)).mono (R' := fun e w'' => ∃ v, e = .returned v ∧ ∃ Ac cc, v = .agg #[.slice Ac N cc, .int .i64 R] ∧ Nds w'' Ac (L.map brN) ∧ Below w'.heap.size w' w'') (fun e w'' ⟨A, c, he, h1, _, h3, _⟩ => ⟨_, he, A, c, by rw [hlm], h1, h3⟩))
      have HL2 := Lib.hid (fun (Ac Ad : Option Addr) (cc cd : Nat) (w' : World) (h1 : Nds w' Ac (L.map brN)) (h2 : Nds w' Ad (L.map brN)) => (like_true Ac Ad cc cd N (L.map brN) R w' h1 h2 hlm.symm (by have := HNL.out; omega) (fun x hx => by have := brN_ks HKS.out x hx; omega)).mono (R' := fun e w'' => ∃ v, e = .returned v ∧ v = .bool true ∧ Below w'.heap.size w' w'') (fun e w'' ⟨he, hb⟩ => ⟨_, he, rfl, hb⟩))
      refine wp_region_held (S := Cl wr) (by kernel_rfl) ?_
      have hS : Cl wr { wr with drawn := wr.drawn + 1 } := ⟨rfl, rfl, rfl, Nat.le_refl _, fun _ _ => rfl⟩
      refine h_pure 0 ({ dst := some 31, op := Op.load 30 (Operand.tmp 7), type := 30, pos := "law.go:72", after := #[], guard := none } : Oper) (.agg #[.slice Aa N ca, .int .i64 R]) (by kernel_rfl) rfl (by kernel_rfl) (by kernel_rfl) (fun _ _ _ h => h) rfl (y_load rfl rfl (fun w' h => run_load30 (hA.below h hA.lt))) hS ?_
      simp only [Act.put, List.setIfInBounds_toArray, List.set_cons_zero, List.set_cons_succ]
      refine h_pure 1 ({ dst := some 32, op := Op.load 30 (Operand.tmp 8), type := 30, pos := "law.go:72", after := #[], guard := none } : Oper) (.agg #[.slice Ab N cb, .int .i64 R]) (by kernel_rfl) rfl (by kernel_rfl) (by kernel_rfl) (fun _ _ _ h => h) rfl (y_load rfl rfl (fun w' h => run_load30 (hB.below h hB.lt))) hS ?_
      simp only [Act.put, List.setIfInBounds_toArray, List.set_cons_zero, List.set_cons_succ]
      refine h_call 2 ({ dst := some 33, op := Op.call { callee := Callee.value (Operand.func 12), args := #[Operand.tmp 31, Operand.tmp 32], argTypes := #[30, 30] }, type := 4, pos := "law.go:72", after := #[{ on := 0, ground := Ground.data }, { on := 1, ground := Ground.data }], guard := none } : Oper) (args := #[.agg #[.slice Aa N ca, .int .i64 R], .agg #[.slice Ab N cb, .int .i64 R]]) own12 rfl rfl (by kernel_rfl) rfl rfl (HL1.out _ hS) ?_
      rintro v W2 ⟨rfl, hbM⟩
      have hS := hS.trans hbM
      refine ⟨hS, ?_⟩
      simp only [Act.put, List.setIfInBounds_toArray, List.set_cons_zero, List.set_cons_succ]
      refine h_pure 3 ({ dst := some 34, op := Op.move (Operand.tmp 33), type := 4, pos := "law.go:72", after := #[{ on := 2, ground := Ground.data }, { on := 2, ground := Ground.chain }], guard := none } : Oper) (.bool true) (by kernel_rfl) rfl (by kernel_rfl) (by kernel_rfl) (fun _ _ _ h => h) rfl (y_move rfl rfl) hS ?_
      simp only [Act.put, List.setIfInBounds_toArray, List.set_cons_zero, List.set_cons_succ]
      refine h_pure 4 ({ dst := some 35, op := Op.load 30 (Operand.tmp 7), type := 30, pos := "law.go:72", after := #[{ on := 3, ground := Ground.guard }], guard := some (3, true) } : Oper) (.agg #[.slice Aa N ca, .int .i64 R]) (by kernel_rfl) rfl (by kernel_rfl) (by kernel_rfl) (fun _ _ _ h => h) rfl (y_load rfl rfl (fun w' h => run_load30 (hA.below h hA.lt))) hS ?_
      simp only [Act.put, List.setIfInBounds_toArray, List.set_cons_zero, List.set_cons_succ]
      refine h_pure 6 ({ dst := some 37, op := Op.load 30 (Operand.tmp 8), type := 30, pos := "law.go:72", after := #[{ on := 3, ground := Ground.guard }], guard := some (3, true) } : Oper) (.agg #[.slice Ab N cb, .int .i64 R]) (by kernel_rfl) rfl (by kernel_rfl) (by kernel_rfl) (fun _ _ _ h => h) rfl (y_load rfl rfl (fun w' h => run_load30 (hB.below h hB.lt))) hS ?_
      simp only [Act.put, List.setIfInBounds_toArray, List.set_cons_zero, List.set_cons_succ]
      refine h_call 5 ({ dst := some 36, op := Op.call { callee := Callee.value (Operand.func 13), args := #[Operand.tmp 35], argTypes := #[30] }, type := 30, pos := "law.go:72", after := #[{ on := 4, ground := Ground.data }, { on := 3, ground := Ground.chain }, { on := 3, ground := Ground.guard }], guard := some (3, true) } : Oper) (args := #[.agg #[.slice Aa N ca, .int .i64 R]]) own13 rfl rfl (by kernel_rfl) rfl rfl (HBA.out _ hS) ?_
      rintro v W3 ⟨Ac, cc, rfl, hNc, hbN⟩
      have hS := hS.trans hbN
      refine ⟨hS, ?_⟩
      simp only [Act.put, List.setIfInBounds_toArray, List.set_cons_zero, List.set_cons_succ]
      refine h_call 7 ({ dst := some 38, op := Op.call { callee := Callee.value (Operand.func 14), args := #[Operand.tmp 37], argTypes := #[30] }, type := 30, pos := "law.go:72", after := #[{ on := 6, ground := Ground.data }, { on := 5, ground := Ground.chain }, { on := 3, ground := Ground.guard }], guard := some (3, true) } : Oper) (args := #[.agg #[.slice Ab N cb, .int .i64 R]]) own14 rfl rfl (by kernel_rfl) rfl rfl (HBB.out _ hS) ?_
      rintro v W4 ⟨Ad, cd, rfl, hNd, hbP⟩
      have hS := hS.trans hbP
      refine ⟨hS, ?_⟩
      simp only [Act.put, List.setIfInBounds_toArray, List.set_cons_zero, List.set_cons_succ]
      refine h_call 8 ({ dst := some 39, op := Op.call { callee := Callee.value (Operand.func 12), args := #[Operand.tmp 36, Operand.tmp 38], argTypes := #[30, 30] }, type := 4, pos := "law.go:72", after := #[{ on := 5, ground := Ground.data }, { on := 7, ground := Ground.data }, { on := 7, ground := Ground.chain }, { on := 3, ground := Ground.guard }], guard := some (3, true) } : Oper) (args := #[.agg #[.slice Ac N cc, .int .i64 R], .agg #[.slice Ad N cd, .int .i64 R]]) own12 rfl rfl (by kernel_rfl) rfl rfl (HL2.out _ _ _ _ _ (hNc.below hbP) hNd) ?_
      rintro v W5 ⟨rfl, hbR⟩
      have hS := hS.trans hbR
      refine ⟨hS, ?_⟩
      simp only [Act.put, List.setIfInBounds_toArray, List.set_cons_zero, List.set_cons_succ]
      refine h_pure 9 ({ dst := some 40, op := Op.pick (Operand.tmp 34) (Operand.tmp 39) (Operand.const (Value.bool false)), type := 4, pos := "law.go:72", after := #[{ on := 3, ground := Ground.data }, { on := 8, ground := Ground.data }], guard := none } : Oper) (.bool true) (by kernel_rfl) rfl (by kernel_rfl) (by kernel_rfl) (fun _ _ _ h => h) rfl (y_pickT rfl rfl rfl) hS ?_
      simp only [Act.put, List.setIfInBounds_toArray, List.set_cons_zero, List.set_cons_succ]
      refine h_pure 10 ({ dst := some 4, op := Op.assign (Operand.tmp 40), type := 4, pos := "law.go:72", after := #[{ on := 9, ground := Ground.data }, { on := 8, ground := Ground.chain }, { on := 0, ground := Ground.phase }, { on := 1, ground := Ground.phase }, { on := 2, ground := Ground.phase }, { on := 3, ground := Ground.phase }, { on := 4, ground := Ground.phase }, { on := 5, ground := Ground.phase }, { on := 6, ground := Ground.phase }, { on := 7, ground := Ground.phase }, { on := 8, ground := Ground.phase }, { on := 9, ground := Ground.phase }], guard := none } : Oper) (.bool true) (by kernel_rfl) rfl (by kernel_rfl) (by kernel_rfl) (fun _ _ _ h => h) rfl (y_assign rfl rfl) hS ?_
      simp only [Act.put, List.setIfInBounds_toArray, List.set_cons_zero, List.set_cons_succ]
      refine wpAnyH_done (by kernel_rfl) ?_ _
      go_wp2
      go_ret
      exact ⟨rfl, bt hbw hS⟩
end Go.Proofs.Ytcnmkmdedeiffaa
