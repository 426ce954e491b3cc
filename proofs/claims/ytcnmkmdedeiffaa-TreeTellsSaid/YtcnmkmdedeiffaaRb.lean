/- PROVED here: the walk of TreeTells. No condition but those in each theorem's own head. -/
import Derived.Test.YtcnmkmdedeiffaaRa
import Derived.Test.YtcnmkmdedeiffaaT
import Derived.Test.YtcnmkmdedeiffaaU
import Derived.Test.YtcnmkmdedeiffaaTf
namespace Go.Proofs.Ytcnmkmdedeiffaa
open Go Go.RowKit

theorem own16 : Own 16 := ⟨_, Try.func16, by kernel_rfl, by kernel_rfl⟩
theorem own17 : Own 17 := ⟨_, Try.func17, by kernel_rfl, by kernel_rfl⟩
theorem own18 : Own 18 := ⟨_, Try.func18, by kernel_rfl, by kernel_rfl⟩
theorem own20 : Own 20 := ⟨_, Try.func20, by kernel_rfl, by kernel_rfl⟩
theorem own21 : Own 21 := ⟨_, Try.func21, by kernel_rfl, by kernel_rfl⟩
theorem own22 : Own 22 := ⟨_, Try.func22, by kernel_rfl, by kernel_rfl⟩
theorem own23 : Own 23 := ⟨_, Try.func23, by kernel_rfl, by kernel_rfl⟩
theorem own25 : Own 25 := ⟨_, Try.func25, by kernel_rfl, by kernel_rfl⟩
theorem own12 : Own 12 := ⟨_, Try.func12, by kernel_rfl, by kernel_rfl⟩
theorem y_pickT {S : World → Prop} {a : Act} {o : Oper} {c x y : Operand} {v : Value} (ho : o.op = .pick c x y) (hc : a.eval c = .bool true) (hx : a.eval x = v) : ∀ w, S w → (execOp a.eval o).run Try.prog w = .ok (.value v) w := fun w _ => by unfold execOp; simp [ho, hc, hx, asBool]
theorem par_len (l : List Nd) (r : Int) : (par l r).length ≤ l.length := by
  unfold par; split
  · simp
  · simp
theorem subL_ksB {l : List Nd} {p : Nat} {m : Nat} (h : ∀ x ∈ l, x.ks.length ≤ m) : ∀ x ∈ subL l p, x.ks.length ≤ m := fun x hx => by
  unfold subL at hx
  obtain ⟨y, hy, rfl⟩ := List.mem_map.1 hx
  have := h y (List.mem_of_mem_take (List.mem_of_mem_drop hy))
  simpa [mvN] using this
set_option maxRecDepth 100000 in
set_option maxHeartbeats 1500000 in
theorem treeTells_any (A : Option Addr) (c n : Nat) (l : List Nd) (r : Int) (pl : Int) (w : World) (hN : Nds w A l) (hn : n = l.length) (hc : n ≤ c) (hm : ∀ x ∈ l, x.n ≤ 9223372036854775807) : Calls Try.prog 4 #[.agg #[.slice A n c, .int .i64 r], .int .i64 pl] w (TruePost w) := by
  have HL := Lib.hid hn
  have HNM := Lib.hid hm
  have H0 := Lib.hid (show LW w A c n l r (w.alloc (.cells #[.slice A n c, .int .i64 r] 30)) from ⟨Bx.new w 30 _, hN.below (heap1 _ _), heap1 _ _⟩)
  clear hn hN hm
  go_enter Try.func4, Try.ntmps4
  go_wp2_with (go_at_call 8; refine (shown_any _).mono ?_)
  rintro e w1 ⟨rfl, hb1⟩
  have h1 := H0.out.below hb1
  clear H0 hb1
  have d0 := h1.1.cell 0
  have d1 := h1.1.cell 1
  simp only [List.getElem?_cons_zero, List.getElem?_cons_succ] at d0 d1
  have HSM := Lib.hid (small_any (some ⟨w1.heap.size, 0, none⟩) 1 1 [(l, r)] _ (trs_one (r := r) h1.2.1 HL.out hc) rfl)
  have H1 := Lib.hid (h1.alloc (.cells #[.slice A n c, .int .i64 r] 30))
  clear h1
  go_wp2_with (go_at_call 9; refine HSM.out.mono ?_)
  rintro e w2 ⟨hb4, bb, rfl, hsm⟩
  have h2 := H1.out.below hb4
  clear HSM hb4 H1 d0 d1
  have H2 := Lib.hid h2
  cases bb with
  | false =>
    clear hsm h2
    go_wp2
    go_ret
    exact ⟨rfl, H2.out.2.2⟩
  | true =>
    have hok := (hsm rfl).2 _ List.mem_cons_self
    clear hsm
    have hn200 : n ≤ 200 := by rw [HL.out]; exact hok.1
    have HOK := Lib.hid (okT_ks hok)
    have HTX := Lib.hid (show ∀ x ∈ l, x.tx.size ≤ 281474976710656 from fun x hx => by have h := (hok.2 x hx).2; omega)
    have HPL := Lib.hid (show (par l r).length ≤ 100000000 by have h := par_len l r; have h2 := HL.out; omega)
    obtain ⟨sl, sr, hSUB, hRSUB, hSL, hSK⟩ : ∃ (sl : List Nd) (sr : Int), (∀ w', Nds w' A l → Calls Try.prog 24 #[.agg #[.slice A n c, .int .i64 r], .int .i64 pl] w' (TPost sl sr w')) ∧ (∀ w', Nds w' A l → Calls Try.prog 25 #[.agg #[.slice A n c, .int .i64 r], .int .i64 pl] w' (RPost sl sr w')) ∧ sl.length ≤ 10000000 ∧ ∀ x ∈ sl, x.ks.length ≤ 100000000 := by
      by_cases h : ¬ Snd l r ∨ pl < 0 ∨ (n : Int) ≤ pl
      · exact ⟨[], 0, fun w' h' => sub_no A c n l r pl w' h' HL.out HOK.out h, fun w' h' => rsub_no A c n l r pl w' h' HL.out HOK.out h, Nat.zero_le _, fun x hx => by cases hx⟩
      · have hS : Snd l r := Classical.byContradiction fun h' => h (.inl h')
        obtain ⟨p, rfl⟩ : ∃ p : Nat, pl = p := ⟨pl.toNat, by omega⟩
        have hp : p < n := by omega
        refine ⟨subL l p, subR l p, fun w' h' => sub_yes A c n l r p w' h' HL.out hc HOK.out hS hp, fun w' h' => rsub_yes A c n l r p w' h' HL.out HOK.out hS hp, ?_, fun x hx => ?_⟩
        · rw [subL_len (by rw [← HL.out]; exact hp)]; omega
        · have := subL_ksB HOK.out x hx; omega
    have HSUB := Lib.hid hSUB
    have HRSUB := Lib.hid hRSUB
    have HSL := Lib.hid hSL
    have HSK := Lib.hid hSK
    clear hSUB hRSUB hSL hSK hok
    obtain ⟨hB, hN, hbw⟩ := h2
    have HN := Lib.hid hN
    clear hN H2
    have d0 := (hB.cell 0).trans rfl
    have d1 := (hB.cell 1).trans rfl
    go_wp2
    clear d0 d1
    refine q_region' w2 (by kernel_rfl) (Below.refl _ _) ?_
    refine q_load rfl rfl (fun w' h => run_load30 (hB.below h hB.lt)) ?_
    simp only [Act.put, List.setIfInBounds_toArray, List.set_cons_zero, List.set_cons_succ]
    refine q_call own15 rfl (args := #[.agg #[.slice A n c, .int .i64 r]]) (v := .bool (sndB l r)) rfl (fun w' h => (sound_any A c n l r w' (HN.out.below h) HL.out HOK.out).mono (fun e w'' hh => ⟨hh.1, Cl.trans h hh.2⟩)) ?_
    simp only [Act.put, List.setIfInBounds_toArray, List.set_cons_zero, List.set_cons_succ]
    refine q_load rfl rfl (fun w' h => run_load30 (hB.below h hB.lt)) ?_
    simp only [Act.put, List.setIfInBounds_toArray, List.set_cons_zero, List.set_cons_succ]
    refine q_call own16 rfl (args := #[.agg #[.slice A n c, .int .i64 r]]) (v := .bool (sndB l r)) rfl (fun w' h => (rsound_any A c n l r w' (HN.out.below h) HL.out HOK.out).mono (fun e w'' hh => ⟨hh.1, Cl.trans h hh.2⟩)) ?_
    simp only [Act.put, List.setIfInBounds_toArray, List.set_cons_zero, List.set_cons_succ]
    refine q_eqlB (b := true) rfl rfl rfl (by simp) ?_
    simp only [Act.put, List.setIfInBounds_toArray, List.set_cons_zero, List.set_cons_succ]
    refine q_move (v := .bool true) rfl rfl ?_
    simp only [Act.put, List.setIfInBounds_toArray, List.set_cons_zero, List.set_cons_succ]
    refine q_load rfl rfl (fun w' h => run_load30 (hB.below h hB.lt)) ?_
    simp only [Act.put, List.setIfInBounds_toArray, List.set_cons_zero, List.set_cons_succ]
    refine q_call own17 rfl (args := #[.agg #[.slice A n c, .int .i64 r]]) (v := .bool (rgB l r)) rfl (fun w' h => (right_any A c n l r w' (HN.out.below h) HL.out HOK.out HTX.out HNM.out).mono (fun e w'' hh => ⟨hh.1, Cl.trans h hh.2⟩)) ?_
    simp only [Act.put, List.setIfInBounds_toArray, List.set_cons_zero, List.set_cons_succ]
    refine q_load rfl rfl (fun w' h => run_load30 (hB.below h hB.lt)) ?_
    simp only [Act.put, List.setIfInBounds_toArray, List.set_cons_zero, List.set_cons_succ]
    refine q_call own18 rfl (args := #[.agg #[.slice A n c, .int .i64 r]]) (v := .bool (rgB l r)) rfl (fun w' h => (rright_any A c n l r w' (HN.out.below h) HL.out HOK.out HTX.out).mono (fun e w'' hh => ⟨hh.1, Cl.trans h hh.2⟩)) ?_
    simp only [Act.put, List.setIfInBounds_toArray, List.set_cons_zero, List.set_cons_succ]
    refine q_eqlB (b := true) rfl rfl rfl (by simp) ?_
    simp only [Act.put, List.setIfInBounds_toArray, List.set_cons_zero, List.set_cons_succ]
    refine q_pick (v := .bool true) rfl rfl rfl ?_
    simp only [Act.put, List.setIfInBounds_toArray, List.set_cons_zero, List.set_cons_succ]
    refine q_move (v := .bool true) rfl rfl ?_
    simp only [Act.put, List.setIfInBounds_toArray, List.set_cons_zero, List.set_cons_succ]
    refine q_load rfl rfl (fun w' h => run_load30 (hB.below h hB.lt)) ?_
    simp only [Act.put, List.setIfInBounds_toArray, List.set_cons_zero, List.set_cons_succ]
    refine q_call own19 rfl (args := #[.agg #[.slice A n c, .int .i64 r]]) (v := .int .i64 (dpt l r : Int)) rfl (fun w' h => (depth_any A c n l r w' (HN.out.below h) HL.out HOK.out).mono (fun e w'' hh => ⟨hh.1, Cl.trans h hh.2⟩)) ?_
    simp only [Act.put, List.setIfInBounds_toArray, List.set_cons_zero, List.set_cons_succ]
    refine q_load rfl rfl (fun w' h => run_load30 (hB.below h hB.lt)) ?_
    simp only [Act.put, List.setIfInBounds_toArray, List.set_cons_zero, List.set_cons_succ]
    refine q_call own20 rfl (args := #[.agg #[.slice A n c, .int .i64 r]]) (v := .int .i64 (dpt l r : Int)) rfl (fun w' h => (rdepth_any A c n l r w' (HN.out.below h) HL.out HOK.out).mono (fun e w'' hh => ⟨hh.1, Cl.trans h hh.2⟩)) ?_
    simp only [Act.put, List.setIfInBounds_toArray, List.set_cons_zero, List.set_cons_succ]
    refine q_eqlI (b := true) rfl rfl rfl (by simp) ?_
    simp only [Act.put, List.setIfInBounds_toArray, List.set_cons_zero, List.set_cons_succ]
    refine q_pick (v := .bool true) rfl rfl rfl ?_
    simp only [Act.put, List.setIfInBounds_toArray, List.set_cons_zero, List.set_cons_succ]
    refine q_assign (v := .bool true) rfl rfl ?_
    simp only [Act.put, List.setIfInBounds_toArray, List.set_cons_zero, List.set_cons_succ]
    refine wpQuiet_nil ?_
    intro W6 hC6
    go_wp2
    refine wp_region_held (S := fun w' => Cl w2 w') (by kernel_rfl) ?_
    have hS : Cl w2 { W6 with drawn := W6.drawn + 1 } := bdrew hC6
    clear hC6
    generalize ({ W6 with drawn := W6.drawn + 1 } : World) = W7 at *
    refine h_pure 0 ({ dst := some 38, op := Op.move (Operand.tmp 7), type := 4, pos := "law.go:83", after := #[], guard := none } : Oper) (.bool true) (by kernel_rfl) rfl (by kernel_rfl) (by kernel_rfl) (fun _ _ _ h => h) rfl (y_move rfl rfl) hS ?_
    simp only [Act.put, List.setIfInBounds_toArray, List.set_cons_zero, List.set_cons_succ]
    refine h_pure 1 ({ dst := some 39, op := Op.move (Operand.tmp 38), type := 4, pos := "law.go:83", after := #[{ on := 0, ground := Ground.data }], guard := none } : Oper) (.bool true) (by kernel_rfl) rfl (by kernel_rfl) (by kernel_rfl) (fun _ _ _ h => h) rfl (y_move rfl rfl) hS ?_
    simp only [Act.put, List.setIfInBounds_toArray, List.set_cons_zero, List.set_cons_succ]
    refine h_pure 2 ({ dst := some 40, op := Op.load 30 (Operand.tmp 2), type := 30, pos := "law.go:83", after := #[{ on := 1, ground := Ground.guard }], guard := some (1, true) } : Oper) (.agg #[.slice A n c, .int .i64 r]) (by kernel_rfl) rfl (by kernel_rfl) (by kernel_rfl) (fun _ _ _ h => h) rfl (y_load rfl rfl (fun w' h => run_load30 (hB.below h hB.lt))) hS ?_
    simp only [Act.put, List.setIfInBounds_toArray, List.set_cons_zero, List.set_cons_succ]
    refine h_pure 4 ({ dst := some 42, op := Op.load 30 (Operand.tmp 2), type := 30, pos := "law.go:83", after := #[{ on := 1, ground := Ground.guard }], guard := some (1, true) } : Oper) (.agg #[.slice A n c, .int .i64 r]) (by kernel_rfl) rfl (by kernel_rfl) (by kernel_rfl) (fun _ _ _ h => h) rfl (y_load rfl rfl (fun w' h => run_load30 (hB.below h hB.lt))) hS ?_
    simp only [Act.put, List.setIfInBounds_toArray, List.set_cons_zero, List.set_cons_succ]
    refine h_call 3 ({ dst := some 41, op := Op.call { callee := Callee.value (Operand.func 22), args := #[Operand.tmp 40], argTypes := #[30] }, type := 22, pos := "law.go:83", after := #[{ on := 2, ground := Ground.data }, { on := 1, ground := Ground.chain }, { on := 1, ground := Ground.guard }], guard := some (1, true) } : Oper) (args := #[.agg #[.slice A n c, .int .i64 r]]) (C := fun v w' => ∃ P cP, v = .slice P (par l r).length cP ∧ Ints w' P (par l r) ∧ Below W7.heap.size W7 w') own22 rfl rfl (by kernel_rfl) rfl rfl ((parents_any A c n l r W7 (HN.out.below hS) HL.out HOK.out).mono (fun e w' ⟨P, cP, he, hI, hb⟩ => ⟨_, he, P, cP, rfl, hI, hb⟩)) ?_
    rintro v V1 ⟨P, cP, rfl, hI1, hb1⟩
    have hS := Cl.trans hS hb1
    refine ⟨hS, ?_⟩
    simp only [Act.put, List.setIfInBounds_toArray, List.set_cons_zero, List.set_cons_succ]
    refine h_call 5 ({ dst := some 43, op := Op.call { callee := Callee.value (Operand.func 23), args := #[Operand.tmp 42], argTypes := #[30] }, type := 22, pos := "law.go:83", after := #[{ on := 4, ground := Ground.data }, { on := 3, ground := Ground.chain }, { on := 1, ground := Ground.guard }], guard := some (1, true) } : Oper) (args := #[.agg #[.slice A n c, .int .i64 r]]) (C := fun v w' => ∃ P cP, v = .slice P (par l r).length cP ∧ Ints w' P (par l r) ∧ Below V1.heap.size V1 w') own23 rfl rfl (by kernel_rfl) rfl rfl ((rparents_any A c n l r V1 (HN.out.below hS) HL.out HOK.out).mono (fun e w' ⟨P, cP, he, hI, hb⟩ => ⟨_, he, P, cP, rfl, hI, hb⟩)) ?_
    rintro v V2 ⟨P2, cP2, rfl, hI2, hb2⟩
    have hS := Cl.trans hS hb2
    refine ⟨hS, ?_⟩
    simp only [Act.put, List.setIfInBounds_toArray, List.set_cons_zero, List.set_cons_succ]
    refine h_call 6 ({ dst := some 44, op := Op.call { callee := Callee.value (Operand.func 21), args := #[Operand.tmp 41, Operand.tmp 43], argTypes := #[22, 22] }, type := 4, pos := "law.go:83", after := #[{ on := 3, ground := Ground.data }, { on := 5, ground := Ground.data }, { on := 5, ground := Ground.chain }, { on := 1, ground := Ground.guard }], guard := some (1, true) } : Oper) (args := #[.slice P (par l r).length cP, .slice P2 (par l r).length cP2]) (C := fun v w' => v = .bool true ∧ Below V2.heap.size V2 w') own21 rfl rfl (by kernel_rfl) rfl rfl ((ints_true P P2 (par l r).length cP cP2 (par l r) V2 (hI1.below hb2) hI2 rfl HPL.out).mono (fun e w' ⟨he, hb⟩ => ⟨_, he, rfl, hb⟩)) ?_
    rintro v V3 ⟨rfl, hb3⟩
    have hS := Cl.trans hS hb3
    clear hI1 hI2 hb1 hb2 hb3
    refine ⟨hS, ?_⟩
    simp only [Act.put, List.setIfInBounds_toArray, List.set_cons_zero, List.set_cons_succ]
    refine h_pure 7 ({ dst := some 45, op := Op.pick (Operand.tmp 39) (Operand.tmp 44) (Operand.const (Value.bool false)), type := 4, pos := "law.go:83", after := #[{ on := 1, ground := Ground.data }, { on := 6, ground := Ground.data }], guard := none } : Oper) (.bool true) (by kernel_rfl) rfl (by kernel_rfl) (by kernel_rfl) (fun _ _ _ h => h) rfl (y_pickT rfl rfl rfl) hS ?_
    simp only [Act.put, List.setIfInBounds_toArray, List.set_cons_zero, List.set_cons_succ]
    refine h_pure 8 ({ dst := some 46, op := Op.move (Operand.tmp 45), type := 4, pos := "law.go:83", after := #[{ on := 7, ground := Ground.data }, { on := 6, ground := Ground.chain }], guard := none } : Oper) (.bool true) (by kernel_rfl) rfl (by kernel_rfl) (by kernel_rfl) (fun _ _ _ h => h) rfl (y_move rfl rfl) hS ?_
    simp only [Act.put, List.setIfInBounds_toArray, List.set_cons_zero, List.set_cons_succ]
    refine h_pure 9 ({ dst := some 47, op := Op.load 30 (Operand.tmp 2), type := 30, pos := "law.go:83", after := #[{ on := 8, ground := Ground.guard }], guard := some (8, true) } : Oper) (.agg #[.slice A n c, .int .i64 r]) (by kernel_rfl) rfl (by kernel_rfl) (by kernel_rfl) (fun _ _ _ h => h) rfl (y_load rfl rfl (fun w' h => run_load30 (hB.below h hB.lt))) hS ?_
    simp only [Act.put, List.setIfInBounds_toArray, List.set_cons_zero, List.set_cons_succ]
    refine h_pure 10 ({ dst := some 48, op := Op.move (Operand.tmp 1), type := 3, pos := "law.go:83", after := #[{ on := 8, ground := Ground.guard }], guard := some (8, true) } : Oper) (.int .i64 pl) (by kernel_rfl) rfl (by kernel_rfl) (by kernel_rfl) (fun _ _ _ h => h) rfl (y_move rfl rfl) hS ?_
    simp only [Act.put, List.setIfInBounds_toArray, List.set_cons_zero, List.set_cons_succ]
    refine h_pure 12 ({ dst := some 50, op := Op.load 30 (Operand.tmp 2), type := 30, pos := "law.go:83", after := #[{ on := 8, ground := Ground.guard }], guard := some (8, true) } : Oper) (.agg #[.slice A n c, .int .i64 r]) (by kernel_rfl) rfl (by kernel_rfl) (by kernel_rfl) (fun _ _ _ h => h) rfl (y_load rfl rfl (fun w' h => run_load30 (hB.below h hB.lt))) hS ?_
    simp only [Act.put, List.setIfInBounds_toArray, List.set_cons_zero, List.set_cons_succ]
    refine h_pure 13 ({ dst := some 51, op := Op.move (Operand.tmp 1), type := 3, pos := "law.go:83", after := #[{ on := 8, ground := Ground.guard }], guard := some (8, true) } : Oper) (.int .i64 pl) (by kernel_rfl) rfl (by kernel_rfl) (by kernel_rfl) (fun _ _ _ h => h) rfl (y_move rfl rfl) hS ?_
    simp only [Act.put, List.setIfInBounds_toArray, List.set_cons_zero, List.set_cons_succ]
    refine h_call 11 ({ dst := some 49, op := Op.call { callee := Callee.value (Operand.func 24), args := #[Operand.tmp 47, Operand.tmp 48], argTypes := #[30, 3] }, type := 30, pos := "law.go:83", after := #[{ on := 9, ground := Ground.data }, { on := 10, ground := Ground.data }, { on := 8, ground := Ground.chain }, { on := 8, ground := Ground.guard }], guard := some (8, true) } : Oper) (args := #[.agg #[.slice A n c, .int .i64 r], .int .i64 pl]) (C := fun v w' => ∃ P cP, v = .agg #[.slice P sl.length cP, .int .i64 sr] ∧ Nds w' P sl ∧ Below V3.heap.size V3 w') own24 rfl rfl (by kernel_rfl) rfl rfl ((HSUB.out V3 (HN.out.below hS)).mono (fun e w' ⟨P, cP, he, hI, _, hb⟩ => ⟨_, he, P, cP, rfl, hI, hb⟩)) ?_
    rintro v V4 ⟨P4, cP4, rfl, hI4, hb4⟩
    have hS := Cl.trans hS hb4
    refine ⟨hS, ?_⟩
    simp only [Act.put, List.setIfInBounds_toArray, List.set_cons_zero, List.set_cons_succ]
    refine h_call 14 ({ dst := some 52, op := Op.call { callee := Callee.value (Operand.func 25), args := #[Operand.tmp 50, Operand.tmp 51], argTypes := #[30, 3] }, type := 30, pos := "law.go:83", after := #[{ on := 12, ground := Ground.data }, { on := 13, ground := Ground.data }, { on := 11, ground := Ground.chain }, { on := 8, ground := Ground.guard }], guard := some (8, true) } : Oper) (args := #[.agg #[.slice A n c, .int .i64 r], .int .i64 pl]) (C := fun v w' => ∃ P cP, v = .agg #[.slice P sl.length cP, .int .i64 sr] ∧ Nds w' P sl ∧ Below V4.heap.size V4 w') own25 rfl rfl (by kernel_rfl) rfl rfl ((HRSUB.out V4 (HN.out.below hS)).mono (fun e w' ⟨P, cP, he, hI, _, hb, _⟩ => ⟨_, he, P, cP, rfl, hI, hb⟩)) ?_
    rintro v V5 ⟨P5, cP5, rfl, hI5, hb5⟩
    have hS := Cl.trans hS hb5
    refine ⟨hS, ?_⟩
    simp only [Act.put, List.setIfInBounds_toArray, List.set_cons_zero, List.set_cons_succ]
    refine h_call 15 ({ dst := some 53, op := Op.call { callee := Callee.value (Operand.func 12), args := #[Operand.tmp 49, Operand.tmp 52], argTypes := #[30, 30] }, type := 4, pos := "law.go:83", after := #[{ on := 11, ground := Ground.data }, { on := 14, ground := Ground.data }, { on := 14, ground := Ground.chain }, { on := 8, ground := Ground.guard }], guard := some (8, true) } : Oper) (args := #[.agg #[.slice P4 sl.length cP4, .int .i64 sr], .agg #[.slice P5 sl.length cP5, .int .i64 sr]]) (C := fun v w' => v = .bool true ∧ Below V5.heap.size V5 w') own12 rfl rfl (by kernel_rfl) rfl rfl ((like_true P4 P5 cP4 cP5 sl.length sl sr V5 (hI4.below hb5) hI5 rfl HSL.out HSK.out).mono (fun e w' ⟨he, hb⟩ => ⟨_, he, rfl, hb⟩)) ?_
    rintro v V6 ⟨rfl, hb6⟩
    have hS := Cl.trans hS hb6
    refine ⟨hS, ?_⟩
    simp only [Act.put, List.setIfInBounds_toArray, List.set_cons_zero, List.set_cons_succ]
    refine h_pure 16 ({ dst := some 54, op := Op.pick (Operand.tmp 46) (Operand.tmp 53) (Operand.const (Value.bool false)), type := 4, pos := "law.go:83", after := #[{ on := 8, ground := Ground.data }, { on := 15, ground := Ground.data }], guard := none } : Oper) (.bool true) (by kernel_rfl) rfl (by kernel_rfl) (by kernel_rfl) (fun _ _ _ h => h) rfl (y_pickT rfl rfl rfl) hS ?_
    simp only [Act.put, List.setIfInBounds_toArray, List.set_cons_zero, List.set_cons_succ]
    refine h_pure 17 ({ dst := some 4, op := Op.assign (Operand.tmp 54), type := 4, pos := "law.go:83", after := #[{ on := 16, ground := Ground.data }, { on := 15, ground := Ground.chain }, { on := 0, ground := Ground.phase }, { on := 1, ground := Ground.phase }, { on := 2, ground := Ground.phase }, { on := 3, ground := Ground.phase }, { on := 4, ground := Ground.phase }, { on := 5, ground := Ground.phase }, { on := 6, ground := Ground.phase }, { on := 7, ground := Ground.phase }, { on := 8, ground := Ground.phase }, { on := 9, ground := Ground.phase }, { on := 10, ground := Ground.phase }, { on := 11, ground := Ground.phase }, { on := 12, ground := Ground.phase }, { on := 13, ground := Ground.phase }, { on := 14, ground := Ground.phase }, { on := 15, ground := Ground.phase }, { on := 16, ground := Ground.phase }], guard := none } : Oper) (.bool true) (by kernel_rfl) rfl (by kernel_rfl) (by kernel_rfl) (fun _ _ _ h => h) rfl (y_assign rfl rfl) hS ?_
    simp only [Act.put, List.setIfInBounds_toArray, List.set_cons_zero, List.set_cons_succ]
    refine wpAnyH_done (by kernel_rfl) ?_ _
    go_wp2
    go_ret
    exact ⟨rfl, bt hbw hS⟩
end Go.Proofs.Ytcnmkmdedeiffaa
