/- PROVED here: parts VaM of the claim. No condition but those in each theorem's own head. -/
import Derived.Test.YtignojhijmamhaaK35
namespace Go.Proofs.Ytignojhijmamhaa.Va
open Go Go.RowKit Go.Sort
theorem wrap64_in {x : Int} (h1 : -9223372036854775808 ≤ x) (h2 : x ≤ 9223372036854775807) : wrap64 x = x := by unfold wrap64; omega
def NewP (T : TypeId) (C : List (List Int) → List Value) (base g : Nat) (v : Value) (vs : List Value) (L : List (List Int)) (n : Int) (w : World) (e : Ending) (w' : World) : Prop :=
  e = .returned (.tuple #[.agg #[.int .i64 (newV L n).1.1, .int .i64 (newV L n).1.2], .int .i64 (newV L n).2.1, .bool (newV L n).2.2]) ∧ ∃ v' vs', Hp T C w' base g v' vs' (newH L n) ∧ Fr (Fp g v vs) w w' ∧ ∀ b, Fp g v' vs' b → Fp g v vs b ∨ w.heap.size ≤ b
theorem NewP.no {T : TypeId} {C : List (List Int) → List Value} {base g : Nat} {v : Value} {vs : List Value} {L : List (List Int)} {n k x a : Int} {b : Bool} {w w' : World} (h : Hp T C w base g v vs L) (hv : newV L n = ((k, x), a, b)) (hh : newH L n = L) (hb : Below w.heap.size w w') :
    NewP T C base g v vs L n w (.returned (.tuple #[.agg #[.int .i64 k, .int .i64 x], .int .i64 a, .bool b])) w' := ⟨by rw [hv], v, vs, by rw [hh]; exact h.below hb, Fr.of_below hb, fun _ h => .inl h⟩
def MadeR (T : TypeId) (C : List (List Int) → List Value) (base g : Nat) (v : Value) (vs : List Value) (L : List (List Int)) (n : Nat) (W : World) (r : Nat) (t : TypeId) (W' : World) : Prop :=
  ∃ v' vs', Hp T C W' base g v' vs' (L ++ [noughts n]) ∧ Fr (Fp g v vs) W W' ∧ (∀ b, Fp g v' vs' b → Fp g v vs b ∨ W.heap.size ≤ b) ∧ Bx W' r t [.int .i64 0, .int .i64 0]
set_option maxRecDepth 100000 in
set_option maxHeartbeats 1000000 in
theorem new_any {w : World} {base g : Nat} {v : Value} {vs : List Value} {L : List (List Int)} (h : Hp 39 C46 w base g v vs L) (n : Int) : Calls Try.prog 7 #[.pointer (some ⟨g, 0, none⟩), .int .i64 n] w (NewP 39 C46 base g v vs L n w) := by
  obtain ⟨i0, hi, hz0, hz1, hz2⟩ := info_parts info78
  obtain ⟨A, c, rfl⟩ := h.slice
  have HH := Lib.hid h
  by_cases hr : n < 0 ∨ 65536 < n
  · have HV := Lib.hid (show newV L n = ((0, 0), 4, true) by unfold newV; rw [if_pos hr])
    have HL := Lib.hid (show newH L n = L by unfold newH; rw [if_pos hr])
    clear h hi hz0 hz1 hz2
    by_cases h1 : n < 0
    · go_enter Try.func7, Try.ntmps7
      go_wp2
      exact bodyPost_ret (v := .tuple #[.agg #[.int .i64 0, .int .i64 0], .int .i64 4, .bool true]) (by simp [results, Try.results7, go_sem]) rfl (NewP.no HH.out HV.out HL.out (heap1 _ _))
    · have h2 : 65536 < n := by omega
      go_enter Try.func7, Try.ntmps7
      go_wp2
      exact bodyPost_ret (v := .tuple #[.agg #[.int .i64 0, .int .i64 0], .int .i64 4, .bool true]) (by simp [results, Try.results7, go_sem]) rfl (NewP.no HH.out HV.out HL.out (heap1 _ _))
  · obtain ⟨N, rfl⟩ : ∃ N : Nat, n = (N : Int) := ⟨n.toNat, by omega⟩
    have h1 : ¬ (N : Int) < 0 := by omega
    have h2 : ¬ 65536 < (N : Int) := by omega
    have hN : N ≤ 65536 := by omega
    have hb0 := heap1 w (.cells #[.int .i64 0, .int .i64 0] 41)
    have hX := Bx.new w 41 [.int .i64 0, .int .i64 0]
    have hG := h.below hb0
    have HB0 := Lib.hid hb0
    obtain ⟨W0, hW0⟩ : ∃ W0, w.alloc (.cells #[.int .i64 0, .int .i64 0] 41) = W0 := ⟨_, rfl⟩
    rw [show (w.alloc (.cells [Value.int .i64 0, .int .i64 0].toArray 41)) = W0 from hW0] at hX
    rw [hW0] at hG HB0
    have HX := Lib.hid hX
    have HG := Lib.hid hG
    have x0 := (hX.cell 0).trans rfl
    have x1 := (hX.cell 1).trans rfl
    have f0 := hX.frozen 0
    have f1 := hX.frozen 1
    have c0 := cells_ge L
    have hcp := h.cap
    have hc0 : 0 ≤ cellsL L := by omega
    have HC := Lib.hid (fun W z (q : W.cell? ⟨g, 1, none⟩ = some (.int .i64 z)) => aload_any ⟨g, 1, none⟩ z W q)
    have y1 := (hG.bx.cell 1).trans rfl
    clear hX hG hb0 h
    by_cases h3 : 262144 < cellsL L + ((N : Int) + 1)
    · have HV := Lib.hid (show newV L (N : Int) = ((0, 0), 0, false) by unfold newV; rw [if_neg hr, if_pos h3])
      have HL := Lib.hid (show newH L (N : Int) = L by unfold newH; rw [if_neg hr, if_pos h3])
      have h4 : 262144 < cellsL L + (N : Int) + 1 := by omega
      rw [show C46 L = [.int .i64 (cellsL L)] from rfl] at y1
      clear c0 hr hi hz0 hz1 hz2
      go_enter Try.func7, Try.ntmps7
      go_wp2_with (go_at_call 20; refine (HC.out _ _ y1).mono ?_; rintro e w' ⟨rfl, rfl⟩)
      exact bodyPost_ret (v := .tuple #[.agg #[.int .i64 0, .int .i64 0], .int .i64 0, .bool false]) (by simp [results, Try.results7, go_sem, x0, x1]) rfl (NewP.no HH.out HV.out HL.out (below2 HB0.out (Nat.le_refl _)))
    · have hnh : newH L (N : Int) = L ++ [noughts N] := by unfold newH; rw [if_neg hr, if_neg h3]; simp [noughts]
      have HV := Lib.hid (show newV L (N : Int) = ((3, (L.length : Int) + 1), 0, true) by unfold newV; rw [if_neg hr, if_neg h3])
      have HL := Lib.hid hnh
      have hcl : cellsL (L ++ [noughts N]) = cellsL L + ((N : Int) + 1) := by rw [cells_app]; simp [cellsL, noughts_len]
      have HCL := Lib.hid hcl
      have HCP := Lib.hid (show cellsL (L ++ [noughts N]) ≤ 262144 by rw [hcl]; omega)
      have h4 : ¬ 262144 < cellsL L + (N : Int) + 1 := by omega
      have HR0 := Lib.hid h3
      clear hnh hcl
      have HD := Lib.hid (fun W z (q : W.cell? ⟨g, 1, none⟩ = some (.int .i64 z)) (q2 : W.frozen? ⟨g, 1, none⟩ = false) => aadd_any ⟨g, 1, none⟩ z ((N : Int) + 1) W q q2)
      have y2 := HG.out.bx.frozen 1
      rw [show C46 L = [.int .i64 (cellsL L)] from rfl] at y1
      have hB2 : Bx (W0.setCell ⟨g, 1, none⟩ (.int .i64 (wrap64 (cellsL L + ((N : Int) + 1))))) g 39 ((.slice A L.length c) :: C46 (L ++ [noughts N])) := by
        have := HG.out.bx.set_ 1 (.int .i64 (wrap64 (cellsL L + ((N : Int) + 1))))
        rw [show wrap64 (cellsL L + ((N : Int) + 1)) = cellsL (L ++ [noughts N]) by rw [HCL.out]; exact wrap64_in (by omega) (by omega)] at this ⊢
        exact this
      have FW : Fr (fun b => b = g) W0 (W0.setCell ⟨g, 1, none⟩ (.int .i64 (wrap64 (cellsL L + ((N : Int) + 1))))) := fr_set (fun b => b = g) W0 (p := ⟨g, 1, none⟩) rfl _
      have hA2 : Ars (W0.setCell ⟨g, 1, none⟩ (.int .i64 (wrap64 (cellsL L + ((N : Int) + 1))))) base (.slice A L.length c) vs L := HG.out.ar.fr2 FW (fun b hb e => by subst e; exact own_bx_ne HG.out.ar.own HG.out.bx (by decide) hb) (fun x hx b hb e => by
        subst e
        obtain ⟨i, hi, rfl⟩ := List.mem_iff_getElem.1 hx
        exact own_bx_ne (HG.out.ar.row i hi (by rw [← HG.out.ar.len]; exact hi)) HG.out.bx (by decide) hb)
      have hX2 := HX.out.fr FW (fun e => by have h5 := HG.out.bx; rw [← e] at h5; have h6 := HX.out; unfold Bx at h5 h6; rw [h5] at h6; injection h6 with h6; injection h6 with _ h7; exact absurd h7 (by decide))
      have FW2 := FW.mono (G := Fp g (.slice A L.length c) vs) fun b hb => .inl hb
      have HF := Lib.hid ((Fr.of_below (F := Fp g (.slice A L.length c) vs) HB0.out).trans FW2 fun _ h => .inl h)
      obtain ⟨W2, hW2⟩ : ∃ W2, (W0.setCell ⟨g, 1, none⟩ (.int .i64 (wrap64 (cellsL L + ((N : Int) + 1))))) = W2 := ⟨_, rfl⟩
      rw [hW2] at hB2 hA2 hX2 HF
      have HB2 := Lib.hid hB2
      have HA2 := Lib.hid hA2
      have HX2 := Lib.hid hX2
      clear hB2 hA2 hX2 FW FW2 c0 hr h3
      go_enter Try.func7, Try.ntmps7
      go_wp2_with (first | (go_at_call 20; refine (HC.out _ _ y1).mono ?_; rintro e w' ⟨rfl, rfl⟩) | (go_at_call 21; refine (HD.out _ _ y1 y2).mono ?_; rintro e w' ⟨rfl, rfl⟩))
      clear x0 x1 f0 f1 y1 y2
      go_cut [] (fun wx => MadeR 39 C46 base g (.slice A L.length c) vs L N W2 w.heap.size 41 wx)
      case first =>
        refine wp_region_held (S := fun _ => True) (by kernel_rfl) ?_
        have hA5 : Ars ({ W2 with drawn := W2.drawn + 1 } : World) base (.slice A L.length c) vs L := ⟨HA2.out.len, HA2.out.own, HA2.out.row, HA2.out.ne⟩
        have hB5 : Bx ({ W2 with drawn := W2.drawn + 1 } : World) g 39 ((.slice A L.length c) :: C46 (L ++ [noughts N])) := HB2.out
        have hX5 : Bx ({ W2 with drawn := W2.drawn + 1 } : World) w.heap.size 41 [.int .i64 0, .int .i64 0] := HX2.out
        have F5 : Fr (Fp g (.slice A L.length c) vs) W2 ({ W2 with drawn := W2.drawn + 1 } : World) := (Fr.refl _ _).drew
        generalize ({ W2 with drawn := W2.drawn + 1 } : World) = W5 at *
        refine hpu 0 (.pointer (some ⟨g, 0, none⟩)) (by kernel_rfl) rfl rfl (fun _ _ _ h => h) rfl (y_move rfl rfl) trivial ?_
        simp only [ap]
        refine hpu 1 (.pointer (some ⟨g, 0, none⟩)) (by kernel_rfl) rfl rfl (fun _ _ _ h => h) rfl (y_move rfl rfl) trivial ?_
        simp only [ap]
        refine hpu 2 (.pointer (some ⟨g, 0, none⟩)) (by kernel_rfl) rfl rfl (fun _ _ _ h => h) rfl (y_nil rfl rfl) trivial ?_
        simp only [ap]
        refine hpu 3 (.pointer (some ⟨g, 0, none⟩)) (by kernel_rfl) rfl rfl (fun _ _ _ h => h) rfl (y_field rfl rfl (run_field46_0 _)) trivial ?_
        simp only [ap]
        refine hpu 5 (.int .i64 (N : Int)) (by kernel_rfl) rfl rfl (fun _ _ _ h => h) rfl (y_move rfl rfl) trivial ?_
        simp only [ap]
        have hl5 : W5.cell? ⟨g, 0, none⟩ = some (.slice A L.length c) := (hB5.cell 0).trans rfl
        have hl6 : (W5.alloc (.cells (ints (noughts N)).toArray 3)).cell? ⟨g, 0, none⟩ = some (.slice A L.length c) := ((hB5.alloc _).cell 0).trans rfl
        have hl7 : ((W5.alloc (.cells (ints (noughts N)).toArray 3)).alloc (.cells #[.slice (some ⟨W5.heap.size, 0, none⟩) N N] 25)).cell? ⟨g, 0, none⟩ = some (.slice A L.length c) := (((hB5.alloc _).alloc _).cell 0).trans rfl
        have hfew := HG.out.few
        have hB6 := (hB5.alloc (.cells (ints (noughts N)).toArray 3)).alloc (.cells #[.slice (some ⟨W5.heap.size, 0, none⟩) N N] 25)
        have hX6 := (hX5.alloc (.cells (ints (noughts N)).toArray 3)).alloc (.cells #[.slice (some ⟨W5.heap.size, 0, none⟩) N N] 25)
        have hown6 := (hA5.own.alloc (.cells (ints (noughts N)).toArray 3)).alloc (.cells #[.slice (some ⟨W5.heap.size, 0, none⟩) N N] 25)
        have hbs : base ≤ ((W5.alloc (.cells (ints (noughts N)).toArray 3)).alloc (.cells #[.slice (some ⟨W5.heap.size, 0, none⟩) N N] 25)).heap.size := by have := HG.out.ge; have := hB5.lt; simp only [World.size_alloc]; omega
        refine h_two 4 6 ({ dst := some 34, op := Op.load 32 (Operand.tmp 33), type := 32, pos := "heap.go:28", after := #[{ on := 3, ground := Ground.data }], guard := none } : Oper) ({ dst := some 36, op := Op.makeSlice 25 (Operand.tmp 35) (Operand.tmp 35), type := 25, pos := "heap.go:28", after := #[{ on := 5, ground := Ground.data }, { on := 5, ground := Ground.data }], guard := none } : Oper) rfl rfl (by kernel_rfl) rfl rfl ?_ ?_
        · refine load_wp rfl rfl (run_load39 hl5) ⟨trivial, ?_⟩
          simp only [ap]
          refine h_one 6 ({ dst := some 36, op := Op.makeSlice 25 (Operand.tmp 35) (Operand.tmp 35), type := 25, pos := "heap.go:28", after := #[{ on := 5, ground := Ground.data }, { on := 5, ground := Ground.data }], guard := none } : Oper) rfl (by kernel_rfl) rfl ?_
          refine make_wp rfl rfl (by omega) ⟨trivial, ?_⟩
          simp only [ap]
          refine h_one 7 ({ dst := some 37, op := Op.buildSlice 32 1 #[(0, Operand.tmp 36)], type := 32, pos := "heap.go:28", after := #[{ on := 6, ground := Ground.data }], guard := none } : Oper) rfl (by kernel_rfl) rfl ?_
          refine build1_wp rfl rfl ⟨trivial, ?_⟩
          simp only [ap]
          refine h_one 8 ({ dst := some 38, op := Op.call { callee := Callee.builtin Builtin.append, args := #[Operand.tmp 34, Operand.tmp 37], argTypes := #[32, 32] }, type := 32, pos := "heap.go:28", after := #[{ on := 4, ground := Ground.data }, { on := 7, ground := Ground.data }], guard := none } : Oper) rfl (by kernel_rfl) rfl ?_
          refine append_wp _ _ 32 rfl base 25 i0 (.slice none 0 0) 1 24 Try.underlying32 hi hz0 hz1 hz2 rfl (by decide) (.slice A L.length c) L.length vs rfl hown6 ⟨(W5.alloc (.cells (ints (noughts N)).toArray 3)).heap.size, 0, none⟩ 1 1 [.slice (some ⟨W5.heap.size, 0, none⟩) N N] rfl rfl (blk_cells (W5.alloc (.cells (ints (noughts N)).toArray 3)) [.slice (some ⟨W5.heap.size, 0, none⟩) N N] 25) (fun u hu => by rw [List.mem_singleton.1 hu]; rfl) (by unfold maxLen; omega) (by omega) hbs ?_
          intro v' w4 hown4 hgrow4 hat4
          rw [World.size_alloc, World.size_alloc] at hat4
          have hfin := Hp.more (T := 39) (C := C46) (g := g) (by decide) (by decide) hA5 hB5 HG.out.ge HCP.out hown4 hgrow4 hat4
          have hvg : (Value.slice A L.length c).ownBlock ≠ some g := own_bx_ne hA5.own hB5 (by decide)
          have hvx : (Value.slice A L.length c).ownBlock ≠ some w.heap.size := own_bx_ne hA5.own hX5 (by decide)
          have hB7 : Bx w4 g 39 ((.slice A L.length c) :: C46 (L ++ [noughts N])) := (hgrow4.block g hB6.lt (fun e => hvg e.symm)).trans hB6
          have hX7 : Bx w4 w.heap.size 41 [.int .i64 0, .int .i64 0] := (hgrow4.block _ hX6.lt (fun e => hvx e.symm)).trans hX6
          obtain ⟨A4, c4, ev4⟩ := own_slice hown4
          refine ⟨trivial, ?_⟩
          simp only [ap]
          refine hpu 9 (.pointer (some ⟨g, 0, none⟩)) (by kernel_rfl) rfl rfl (fun _ _ _ h => h) rfl (y_nil rfl rfl) trivial ?_
          simp only [ap]
          refine hpu 10 (.pointer (some ⟨g, 0, none⟩)) (by kernel_rfl) rfl rfl (fun _ _ _ h => h) rfl (y_field rfl rfl (run_field46_0 _)) trivial ?_
          simp only [ap]
          refine h_one 11 ({ dst := none, op := Op.store 32 (Operand.tmp 40) (Operand.tmp 38), type := 0, pos := "heap.go:28", after := #[{ on := 10, ground := Ground.data }, { on := 8, ground := Ground.data }, { on := 8, ground := Ground.chain }, { on := 0, ground := Ground.phase }, { on := 1, ground := Ground.phase }, { on := 2, ground := Ground.phase }, { on := 3, ground := Ground.phase }, { on := 4, ground := Ground.phase }, { on := 5, ground := Ground.phase }, { on := 6, ground := Ground.phase }, { on := 7, ground := Ground.phase }, { on := 8, ground := Ground.phase }], guard := none } : Oper) rfl (by kernel_rfl) rfl ?_
          subst ev4
          refine store39_wp rfl rfl rfl ((hB7.cell 0).trans rfl) (hB7.frozen 0) ⟨trivial, ?_⟩
          simp only [Act.put]
          refine wpAnyH_done (by kernel_rfl) ?_ _
          have HFIN := Lib.hid (show MadeR 39 C46 base g (.slice A L.length c) vs L N W2 w.heap.size 41 (w4.setCell ⟨g, 0, none⟩ (.slice A4 (L.length + 1) c4)) from ⟨_, _, hfin.1, F5.trans hfin.2.1 (fun _ h => .inl h), fun b hb => (hfin.2.2 b hb).imp id (fun q => Nat.le_trans F5.size q), hX7.far (fun e => by have h5 := hB7; replace e : w.heap.size = g := e; rw [← e] at h5; have h6 := hX7; unfold Bx at h5 h6; rw [h5] at h6; injection h6 with h6; injection h6 with _ h7; exact absurd h7 (by decide)) _⟩)
          clear hfin hown4 hgrow4 hat4 hB7 hX7 hvg hvx
          go_wp2_with fail
          go_meet
          exact HFIN.out
        · refine make_wp rfl rfl (by omega) ⟨trivial, ?_⟩
          simp only [ap]
          refine h_two 4 7 ({ dst := some 34, op := Op.load 32 (Operand.tmp 33), type := 32, pos := "heap.go:28", after := #[{ on := 3, ground := Ground.data }], guard := none } : Oper) ({ dst := some 37, op := Op.buildSlice 32 1 #[(0, Operand.tmp 36)], type := 32, pos := "heap.go:28", after := #[{ on := 6, ground := Ground.data }], guard := none } : Oper) rfl rfl (by kernel_rfl) rfl rfl ?_ ?_
          · refine load_wp rfl rfl (run_load39 hl6) ⟨trivial, ?_⟩
            simp only [ap]
            refine h_one 7 ({ dst := some 37, op := Op.buildSlice 32 1 #[(0, Operand.tmp 36)], type := 32, pos := "heap.go:28", after := #[{ on := 6, ground := Ground.data }], guard := none } : Oper) rfl (by kernel_rfl) rfl ?_
            refine build1_wp rfl rfl ⟨trivial, ?_⟩
            simp only [ap]
            refine h_one 8 ({ dst := some 38, op := Op.call { callee := Callee.builtin Builtin.append, args := #[Operand.tmp 34, Operand.tmp 37], argTypes := #[32, 32] }, type := 32, pos := "heap.go:28", after := #[{ on := 4, ground := Ground.data }, { on := 7, ground := Ground.data }], guard := none } : Oper) rfl (by kernel_rfl) rfl ?_
            refine append_wp _ _ 32 rfl base 25 i0 (.slice none 0 0) 1 24 Try.underlying32 hi hz0 hz1 hz2 rfl (by decide) (.slice A L.length c) L.length vs rfl hown6 ⟨(W5.alloc (.cells (ints (noughts N)).toArray 3)).heap.size, 0, none⟩ 1 1 [.slice (some ⟨W5.heap.size, 0, none⟩) N N] rfl rfl (blk_cells (W5.alloc (.cells (ints (noughts N)).toArray 3)) [.slice (some ⟨W5.heap.size, 0, none⟩) N N] 25) (fun u hu => by rw [List.mem_singleton.1 hu]; rfl) (by unfold maxLen; omega) (by omega) hbs ?_
            intro v' w4 hown4 hgrow4 hat4
            rw [World.size_alloc, World.size_alloc] at hat4
            have hfin := Hp.more (T := 39) (C := C46) (g := g) (by decide) (by decide) hA5 hB5 HG.out.ge HCP.out hown4 hgrow4 hat4
            have hvg : (Value.slice A L.length c).ownBlock ≠ some g := own_bx_ne hA5.own hB5 (by decide)
            have hvx : (Value.slice A L.length c).ownBlock ≠ some w.heap.size := own_bx_ne hA5.own hX5 (by decide)
            have hB7 : Bx w4 g 39 ((.slice A L.length c) :: C46 (L ++ [noughts N])) := (hgrow4.block g hB6.lt (fun e => hvg e.symm)).trans hB6
            have hX7 : Bx w4 w.heap.size 41 [.int .i64 0, .int .i64 0] := (hgrow4.block _ hX6.lt (fun e => hvx e.symm)).trans hX6
            obtain ⟨A4, c4, ev4⟩ := own_slice hown4
            refine ⟨trivial, ?_⟩
            simp only [ap]
            refine hpu 9 (.pointer (some ⟨g, 0, none⟩)) (by kernel_rfl) rfl rfl (fun _ _ _ h => h) rfl (y_nil rfl rfl) trivial ?_
            simp only [ap]
            refine hpu 10 (.pointer (some ⟨g, 0, none⟩)) (by kernel_rfl) rfl rfl (fun _ _ _ h => h) rfl (y_field rfl rfl (run_field46_0 _)) trivial ?_
            simp only [ap]
            refine h_one 11 ({ dst := none, op := Op.store 32 (Operand.tmp 40) (Operand.tmp 38), type := 0, pos := "heap.go:28", after := #[{ on := 10, ground := Ground.data }, { on := 8, ground := Ground.data }, { on := 8, ground := Ground.chain }, { on := 0, ground := Ground.phase }, { on := 1, ground := Ground.phase }, { on := 2, ground := Ground.phase }, { on := 3, ground := Ground.phase }, { on := 4, ground := Ground.phase }, { on := 5, ground := Ground.phase }, { on := 6, ground := Ground.phase }, { on := 7, ground := Ground.phase }, { on := 8, ground := Ground.phase }], guard := none } : Oper) rfl (by kernel_rfl) rfl ?_
            subst ev4
            refine store39_wp rfl rfl rfl ((hB7.cell 0).trans rfl) (hB7.frozen 0) ⟨trivial, ?_⟩
            simp only [Act.put]
            refine wpAnyH_done (by kernel_rfl) ?_ _
            have HFIN := Lib.hid (show MadeR 39 C46 base g (.slice A L.length c) vs L N W2 w.heap.size 41 (w4.setCell ⟨g, 0, none⟩ (.slice A4 (L.length + 1) c4)) from ⟨_, _, hfin.1, F5.trans hfin.2.1 (fun _ h => .inl h), fun b hb => (hfin.2.2 b hb).imp id (fun q => Nat.le_trans F5.size q), hX7.far (fun e => by have h5 := hB7; replace e : w.heap.size = g := e; rw [← e] at h5; have h6 := hX7; unfold Bx at h5 h6; rw [h5] at h6; injection h6 with h6; injection h6 with _ h7; exact absurd h7 (by decide)) _⟩)
            clear hfin hown4 hgrow4 hat4 hB7 hX7 hvg hvx
            go_wp2_with fail
            go_meet
            exact HFIN.out
          · refine build1_wp rfl rfl ⟨trivial, ?_⟩
            simp only [ap]
            refine h_one 4 ({ dst := some 34, op := Op.load 32 (Operand.tmp 33), type := 32, pos := "heap.go:28", after := #[{ on := 3, ground := Ground.data }], guard := none } : Oper) rfl (by kernel_rfl) rfl ?_
            refine load_wp rfl rfl (run_load39 hl7) ⟨trivial, ?_⟩
            simp only [ap]
            refine h_one 8 ({ dst := some 38, op := Op.call { callee := Callee.builtin Builtin.append, args := #[Operand.tmp 34, Operand.tmp 37], argTypes := #[32, 32] }, type := 32, pos := "heap.go:28", after := #[{ on := 4, ground := Ground.data }, { on := 7, ground := Ground.data }], guard := none } : Oper) rfl (by kernel_rfl) rfl ?_
            refine append_wp _ _ 32 rfl base 25 i0 (.slice none 0 0) 1 24 Try.underlying32 hi hz0 hz1 hz2 rfl (by decide) (.slice A L.length c) L.length vs rfl hown6 ⟨(W5.alloc (.cells (ints (noughts N)).toArray 3)).heap.size, 0, none⟩ 1 1 [.slice (some ⟨W5.heap.size, 0, none⟩) N N] rfl rfl (blk_cells (W5.alloc (.cells (ints (noughts N)).toArray 3)) [.slice (some ⟨W5.heap.size, 0, none⟩) N N] 25) (fun u hu => by rw [List.mem_singleton.1 hu]; rfl) (by unfold maxLen; omega) (by omega) hbs ?_
            intro v' w4 hown4 hgrow4 hat4
            rw [World.size_alloc, World.size_alloc] at hat4
            have hfin := Hp.more (T := 39) (C := C46) (g := g) (by decide) (by decide) hA5 hB5 HG.out.ge HCP.out hown4 hgrow4 hat4
            have hvg : (Value.slice A L.length c).ownBlock ≠ some g := own_bx_ne hA5.own hB5 (by decide)
            have hvx : (Value.slice A L.length c).ownBlock ≠ some w.heap.size := own_bx_ne hA5.own hX5 (by decide)
            have hB7 : Bx w4 g 39 ((.slice A L.length c) :: C46 (L ++ [noughts N])) := (hgrow4.block g hB6.lt (fun e => hvg e.symm)).trans hB6
            have hX7 : Bx w4 w.heap.size 41 [.int .i64 0, .int .i64 0] := (hgrow4.block _ hX6.lt (fun e => hvx e.symm)).trans hX6
            obtain ⟨A4, c4, ev4⟩ := own_slice hown4
            refine ⟨trivial, ?_⟩
            simp only [ap]
            refine hpu 9 (.pointer (some ⟨g, 0, none⟩)) (by kernel_rfl) rfl rfl (fun _ _ _ h => h) rfl (y_nil rfl rfl) trivial ?_
            simp only [ap]
            refine hpu 10 (.pointer (some ⟨g, 0, none⟩)) (by kernel_rfl) rfl rfl (fun _ _ _ h => h) rfl (y_field rfl rfl (run_field46_0 _)) trivial ?_
            simp only [ap]
            refine h_one 11 ({ dst := none, op := Op.store 32 (Operand.tmp 40) (Operand.tmp 38), type := 0, pos := "heap.go:28", after := #[{ on := 10, ground := Ground.data }, { on := 8, ground := Ground.data }, { on := 8, ground := Ground.chain }, { on := 0, ground := Ground.phase }, { on := 1, ground := Ground.phase }, { on := 2, ground := Ground.phase }, { on := 3, ground := Ground.phase }, { on := 4, ground := Ground.phase }, { on := 5, ground := Ground.phase }, { on := 6, ground := Ground.phase }, { on := 7, ground := Ground.phase }, { on := 8, ground := Ground.phase }], guard := none } : Oper) rfl (by kernel_rfl) rfl ?_
            subst ev4
            refine store39_wp rfl rfl rfl ((hB7.cell 0).trans rfl) (hB7.frozen 0) ⟨trivial, ?_⟩
            simp only [Act.put]
            refine wpAnyH_done (by kernel_rfl) ?_ _
            have HFIN := Lib.hid (show MadeR 39 C46 base g (.slice A L.length c) vs L N W2 w.heap.size 41 (w4.setCell ⟨g, 0, none⟩ (.slice A4 (L.length + 1) c4)) from ⟨_, _, hfin.1, F5.trans hfin.2.1 (fun _ h => .inl h), fun b hb => (hfin.2.2 b hb).imp id (fun q => Nat.le_trans F5.size q), hX7.far (fun e => by have h5 := hB7; replace e : w.heap.size = g := e; rw [← e] at h5; have h6 := hX7; unfold Bx at h5 h6; rw [h5] at h6; injection h6 with h6; injection h6 with _ h7; exact absurd h7 (by decide)) _⟩)
            clear hfin hown4 hgrow4 hat4 hB7 hX7 hvg hvx
            go_wp2_with fail
            go_meet
            exact HFIN.out
      case rest =>
        obtain ⟨v', vs', hH, hF, hFp, hX8⟩ := hcut
        obtain ⟨A', c', ev⟩ := hH.slice
        have hl1 : (L ++ [noughts N]).length = L.length + 1 := by simp
        rw [hl1] at ev
        have y0 := (hH.bx.cell 0).trans rfl
        rw [ev] at y0
        have z0 := (hX8.cell 0).trans rfl
        have z1 := (hX8.cell 1).trans rfl
        have g0 := hX8.frozen 0
        have g1 := hX8.frozen 1
        have HE := Lib.hid (And.intro hH (And.intro hF (And.intro hFp hX8)))
        clear hH hF hFp hX8 ev hl1
        go_wp2
        have hfr : Fr (fun b => b = w.heap.size) wc ((wc.setCell ⟨w.heap.size, 0, none⟩ (.int .i64 3)).setCell ⟨w.heap.size, 1, none⟩ (.int .i64 ((L.length : Int) + 1))) := (fr_set (fun b => b = w.heap.size) _ (p := ⟨w.heap.size, 0, none⟩) rfl _).trans (fr_set (fun b => b = w.heap.size) _ (p := ⟨w.heap.size, 1, none⟩) rfl _) (fun _ h => .inl h)
        obtain ⟨hH, hF, hFp, hX8⟩ := HE.out
        have hnot : ∀ b, Fp g v' vs' b → ¬ b = w.heap.size := fun b hb e => by
          subst e
          rcases hFp _ hb with q | q
          · have := HH.out.lt q; omega
          · have := HF.out.size; have := HX2.out.lt; omega
        exact bodyPost_ret (v := .tuple #[.agg #[.int .i64 3, .int .i64 ((L.length : Int) + 1)], .int .i64 0, .bool true]) (by simp [results, Try.results7, go_sem, z0, z1]) rfl ⟨by rw [HV.out], v', vs', by rw [HL.out]; exact hH.fr hfr hnot, (HF.out.trans hF fun _ h => .inl h).trans (hfr.mono (G := fun b => w.heap.size ≤ b) fun b hb => by omega) (fun _ h => .inr h), fun b hb => (hFp b hb).imp id fun q => Nat.le_trans HF.out.size q⟩
end Go.Proofs.Ytignojhijmamhaa.Va
