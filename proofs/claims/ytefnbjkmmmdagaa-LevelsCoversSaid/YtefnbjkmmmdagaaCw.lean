/- PROVED here: the law LevelsCovers returns true at any names and pairs. No condition but those in each theorem's own head. -/
import Derived.Test.YtefnbjkmmmdagaaCc
namespace Go.Proofs.Ytefnbjkmmmdagaa
open Go Go.RowKit
theorem drewN_add (w : World) (a b : Nat) : (w.drewN a).drewN b = w.drewN (a + b) := by unfold World.drewN; simp [Nat.add_assoc]
theorem newOk3 {l : List ByteArray} {ps : List (ByteArray × ByteArray)} {w : World} {e : Ending} {w' : World} (h : NewPost l ps w e w') (h0 : newE l ps = 0) : ∃ g, w.heap.size ≤ g ∧ e = .returned (.tuple #[.pointer (some ⟨g, 0, none⟩), .int .i64 0]) ∧ Below w.heap.size w w' ∧ Lat w' g l (uOf l ps) (dOf l ps) := by
  rcases h with ⟨h1, _⟩ | ⟨_, h2⟩
  · exact absurd h0 h1
  · exact h2
theorem lat_lt2 {w : World} {g : Nat} {l : List ByteArray} {u d : Nat → Nat} (h : Lat w g l u d) : g < w.heap.size := by
  obtain ⟨dn, f, ⟨A, c, gu, gd, h1, _⟩, _⟩ := h
  exact (Array.getElem?_eq_some_iff.1 h1).1
theorem OwP.drawn2 {w : World} {base : Nat} {v : Value} {l : List (ByteArray × ByteArray)} (h : OwP w base v l) {k : Nat} : OwP { w with drawn := k } base v l := h
theorem new_c0' (w : World) (s t : ByteArray) : (w.alloc (.cells #[.string s, .string t] 45)).cell? ((⟨w.heap.size, 0, none⟩ : Addr).add 0) = some (.string s) := by simp [Addr.add]
theorem new_c1' (w : World) (s t : ByteArray) : (w.alloc (.cells #[.string s, .string t] 45)).cell? ((⟨w.heap.size, 0, none⟩ : Addr).add 1) = some (.string t) := by simp [Addr.add]
theorem cvP_len (l : List ByteArray) (cv : List (Nat × Nat)) (k : Nat) : (cvP l (cv.take k)).length = min k cv.length := by unfold cvP; simp
theorem cvP_succ (l : List ByteArray) (cv : List (Nat × Nat)) (k : Nat) (h : k < cv.length) : cvP l (cv.take (k + 1)) = cvP l (cv.take k) ++ [(l.getD cv[k].1 ⟨#[]⟩, l.getD cv[k].2 ⟨#[]⟩)] := by
  unfold cvP; rw [List.take_succ_eq_append_getElem h, List.map_append]; rfl
theorem getD_get {l : List ByteArray} {i : Nat} (hi : i < l.length) : l[i] = l.getD i ⟨#[]⟩ := by simp [hi]
theorem ok_nat {l : List ByteArray} {s : ByteArray} (h : 0 ≤ idxO l s) : ∃ x : Nat, x < l.length ∧ idxO l s = x ∧ (idxO l s).toNat = x := ⟨_, idxO_lt l s h, by omega, rfl⟩
set_option maxRecDepth 100000 in
set_option maxHeartbeats 8000000 in
theorem levelsCovers_any (A : Option Addr) (c : Nat) (l : List ByteArray) (B : Option Addr) (d : Nat) (ps : List (ByteArray × ByteArray)) (w : World) (hl : l.length ≤ maxLen) (hc : l.length ≤ c) (hs : ∀ s ∈ l, s.size ≤ maxLen) (hA : Strs w A l) (hps : ps.length ≤ maxLen) (hB : Prs w B ps) :
    Calls Try.prog 5 #[.slice A l.length c, .slice B ps.length d] w fun e w' => e = .returned (.bool true) ∧ Below w.heap.size w w' := by
  have HSM := Lib.hid (fun w h1 h2 => small_any A c l B d ps w h1 h2)
  have HNW := Lib.hid (fun B d ps w hps h1 h2 => new_any A c l B d ps w hl hc hs h1 hps h2)
  have HA := Lib.hid hA
  have HB := Lib.hid hB
  have HPS := Lib.hid hps
  clear hl hc hs hA hps hB
  have hnil := nil26
  have hnil' := nil26'
  go_enter Try.func5, Try.ntmps5
  go_upto_region 3 with (first
    | (go_at_call 8; refine (shown_any _).mono ?_; rintro e w1 ⟨rfl, hb1⟩)
    | (go_at_call 9; refine (HSM.out _ (HA.out.below hb1) (HB.out.below hb1)).mono ?_; rintro e w' ⟨b, rfl, rfl⟩))
  cases b with
  | false =>
    go_wp2
    go_ret
    exact ⟨rfl, hb1⟩
  | true =>
    go_upto_region 6 with (go_at_call 10; refine (HNW.out B d ps _ HPS.out (HA.out.below hb1) (HB.out.below hb1)).mono ?_; rintro e w2 hP; rcases hP with ⟨hne, rfl, hb2⟩ | ⟨he, g, hg, rfl, hb2, hLt⟩)
    · generalize newE l ps = r at *
      have hz : ((r : Int) != 0) = true := by rw [bne_iff_ne]; omega
      clear hne
      go_wp2
      go_ret
      exact ⟨rfl, bt hb1 hb2⟩
    · obtain ⟨hL, _, hok⟩ := new_latt he
      have hW : LW w g l (uOf l ps) (dOf l ps) w2 := ⟨Nat.le_trans hb1.size hg, bt hb1 hb2, hLt⟩
      have HCV := Lib.hid (cov_new he rfl)
      have HST := Lib.hid (fun k (hk : k < ps.length) => And.intro (hok _ (List.getElem_mem hk)) (pair_stands (l := l) (List.getElem_mem hk)))
      have HA2 := Lib.hid ((HA.out.below hb1).below hb2)
      have HB2 := Lib.hid ((HB.out.below hb1).below hb2)
      clear he hg hb1 hb2 hLt HSM HA HB hok
      generalize uOf l ps = u at *
      generalize dOf l ps = dd at *
      have hpos := hL.pos
      have h16 := hL.le16
      have HLT := Lib.hid hL
      have hpm : ps.length ≤ 9223372036854775807 := by have := HPS.out; unfold maxLen at this; omega
      clear hL
      go_upto_region 9 with fail
      go_loopw [9] (fun i wr => ∃ k : Nat, k ≤ ps.length ∧ i = .int .i64 (k : Int) ∧ ∃ q, wr = w2.drewN q) (fun i _ => ps.length - (intOf i).toNat)
      case atStart => exact ⟨0, by omega, rfl, 0, rfl⟩
      case round =>
        obtain ⟨k, hk, rfl, q, rfl⟩ := hrel
        by_cases hlt : k < ps.length
        · have hlz : (k : Int) < (ps.length : Int) := by omega
          obtain ⟨bb, off, rfl, hbl, hcell⟩ := HB2.out (by omega)
          obtain ⟨c1, c2⟩ := hcell k hlt
          obtain ⟨hp1, hp2⟩ := HST.out k hlt
          unfold okP at hp1
          rw [Bool.and_eq_true, decide_eq_true_eq, decide_eq_true_eq] at hp1
          generalize ps[k].1 = s1 at *
          generalize ps[k].2 = s2 at *
          obtain ⟨x1, l1, e1, e1'⟩ := ok_nat hp1.1
          obtain ⟨x2, l2, e2, e2'⟩ := ok_nat hp1.2
          rw [e1', e2'] at hp2
          have H1 := Lib.hid (fun q => place_any g l u dd s1 (w2.drewN q) h16 (hW.2.2.drewN q))
          have H2 := Lib.hid (fun q => place_any g l u dd s2 (w2.drewN q) h16 (hW.2.2.drewN q))
          have h3 := fun q => below_in g l u dd x1 x2 (w2.drewN q) h16 HLT.out.fitU l1 l2 (hW.2.2.drewN q)
          rw [e1] at H1
          rw [e2] at H2
          rw [hp2] at h3
          have H3 := Lib.hid h3
          clear hcell hp1 hp2 e1 e2 e1' e2' h3
          go_upto_region 11 with fail
          refine wp_region_held (S := fun w' => ∃ q, w' = w2.drewN q) (by kernel_rfl) ?_
          have hS : ∃ q0, w2.drewN (q + 1) = w2.drewN q0 := ⟨_, rfl⟩
          refine h_pure 0 ({ dst := some 48, op := Op.move (Operand.tmp 7), type := 26, pos := "law.go:128", after := #[], guard := none } : Oper) (.pointer (some ⟨g, 0, none⟩)) (by kernel_rfl) rfl (by kernel_rfl) (by kernel_rfl) (fun _ _ _ h => h) rfl (y_move rfl rfl) hS ?_
          simp only [Act.put, List.setIfInBounds_toArray, List.set_cons_zero, List.set_cons_succ]
          refine h_pure 1 ({ dst := some 49, op := Op.move (Operand.tmp 7), type := 26, pos := "law.go:128", after := #[], guard := none } : Oper) (.pointer (some ⟨g, 0, none⟩)) (by kernel_rfl) rfl (by kernel_rfl) (by kernel_rfl) (fun _ _ _ h => h) rfl (y_move rfl rfl) hS ?_
          simp only [Act.put, List.setIfInBounds_toArray, List.set_cons_zero, List.set_cons_succ]
          refine h_pure 2 ({ dst := some 50, op := Op.move (Operand.tmp 1), type := 23, pos := "law.go:128", after := #[], guard := none } : Oper) (.slice (some ⟨bb, off, none⟩) ps.length d) (by kernel_rfl) rfl (by kernel_rfl) (by kernel_rfl) (fun _ _ _ h => h) rfl (y_move rfl rfl) hS ?_
          simp only [Act.put, List.setIfInBounds_toArray, List.set_cons_zero, List.set_cons_succ]
          refine h_pure 3 ({ dst := some 51, op := Op.move (Operand.tmp 9), type := 3, pos := "law.go:128", after := #[], guard := none } : Oper) (.int .i64 (k : Int)) (by kernel_rfl) rfl (by kernel_rfl) (by kernel_rfl) (fun _ _ _ h => h) rfl (y_move rfl rfl) hS ?_
          simp only [Act.put, List.setIfInBounds_toArray, List.set_cons_zero, List.set_cons_succ]
          refine h_pure 4 ({ dst := some 52, op := Op.indexAddr 23 (Operand.tmp 50) (Operand.tmp 51), type := 0, pos := "law.go:128", after := #[{ on := 2, ground := Ground.data }, { on := 3, ground := Ground.data }], guard := none } : Oper) (.pointer (some ⟨bb, off + k * 2, none⟩)) (by kernel_rfl) rfl (by kernel_rfl) (by kernel_rfl) (fun _ _ _ h => h) rfl (y_index23 rfl rfl rfl hlt) hS ?_
          simp only [Act.put, List.setIfInBounds_toArray, List.set_cons_zero, List.set_cons_succ]
          refine h_pure 5 ({ dst := some 53, op := Op.indexAddr 45 (Operand.tmp 52) (Operand.const (Value.int IntKind.i64 0)), type := 0, pos := "law.go:128", after := #[{ on := 4, ground := Ground.data }], guard := none } : Oper) (.pointer (some ⟨bb, off + k * 2, none⟩)) (by kernel_rfl) rfl (by kernel_rfl) (by kernel_rfl) (fun _ _ _ h => h) rfl (y_at rfl rfl rfl (run_index45_0 _ _)) hS ?_
          simp only [Act.put, List.setIfInBounds_toArray, List.set_cons_zero, List.set_cons_succ]
          refine h_pure 6 ({ dst := some 54, op := Op.load 9 (Operand.tmp 53), type := 9, pos := "law.go:128", after := #[{ on := 5, ground := Ground.data }], guard := none } : Oper) (.string s1) (by kernel_rfl) rfl (by kernel_rfl) (by kernel_rfl) (fun _ _ _ h => h) rfl (y_load9 rfl rfl (fun w' ⟨q, e⟩ => by subst e; exact c1)) hS ?_
          simp only [Act.put, List.setIfInBounds_toArray, List.set_cons_zero, List.set_cons_succ]
          refine h_pure 8 ({ dst := some 56, op := Op.move (Operand.tmp 7), type := 26, pos := "law.go:128", after := #[], guard := none } : Oper) (.pointer (some ⟨g, 0, none⟩)) (by kernel_rfl) rfl (by kernel_rfl) (by kernel_rfl) (fun _ _ _ h => h) rfl (y_move rfl rfl) hS ?_
          simp only [Act.put, List.setIfInBounds_toArray, List.set_cons_zero, List.set_cons_succ]
          refine h_pure 9 ({ dst := some 57, op := Op.move (Operand.tmp 1), type := 23, pos := "law.go:128", after := #[], guard := none } : Oper) (.slice (some ⟨bb, off, none⟩) ps.length d) (by kernel_rfl) rfl (by kernel_rfl) (by kernel_rfl) (fun _ _ _ h => h) rfl (y_move rfl rfl) hS ?_
          simp only [Act.put, List.setIfInBounds_toArray, List.set_cons_zero, List.set_cons_succ]
          refine h_pure 10 ({ dst := some 58, op := Op.move (Operand.tmp 9), type := 3, pos := "law.go:128", after := #[], guard := none } : Oper) (.int .i64 (k : Int)) (by kernel_rfl) rfl (by kernel_rfl) (by kernel_rfl) (fun _ _ _ h => h) rfl (y_move rfl rfl) hS ?_
          simp only [Act.put, List.setIfInBounds_toArray, List.set_cons_zero, List.set_cons_succ]
          refine h_pure 11 ({ dst := some 59, op := Op.indexAddr 23 (Operand.tmp 57) (Operand.tmp 58), type := 0, pos := "law.go:128", after := #[{ on := 9, ground := Ground.data }, { on := 10, ground := Ground.data }], guard := none } : Oper) (.pointer (some ⟨bb, off + k * 2, none⟩)) (by kernel_rfl) rfl (by kernel_rfl) (by kernel_rfl) (fun _ _ _ h => h) rfl (y_index23 rfl rfl rfl hlt) hS ?_
          simp only [Act.put, List.setIfInBounds_toArray, List.set_cons_zero, List.set_cons_succ]
          refine h_pure 12 ({ dst := some 60, op := Op.indexAddr 45 (Operand.tmp 59) (Operand.const (Value.int IntKind.i64 1)), type := 0, pos := "law.go:128", after := #[{ on := 11, ground := Ground.data }], guard := none } : Oper) (.pointer (some ⟨bb, off + k * 2 + 1, none⟩)) (by kernel_rfl) rfl (by kernel_rfl) (by kernel_rfl) (fun _ _ _ h => h) rfl (y_at rfl rfl rfl (run_index45_1 _ _)) hS ?_
          simp only [Act.put, List.setIfInBounds_toArray, List.set_cons_zero, List.set_cons_succ]
          refine h_pure 13 ({ dst := some 61, op := Op.load 9 (Operand.tmp 60), type := 9, pos := "law.go:128", after := #[{ on := 12, ground := Ground.data }], guard := none } : Oper) (.string s2) (by kernel_rfl) rfl (by kernel_rfl) (by kernel_rfl) (fun _ _ _ h => h) rfl (y_load9 rfl rfl (fun w' ⟨q, e⟩ => by subst e; exact c2)) hS ?_
          simp only [Act.put, List.setIfInBounds_toArray, List.set_cons_zero, List.set_cons_succ]
          refine h_call 7 ({ dst := some 55, op := Op.call { callee := Callee.value (Operand.func 23), args := #[Operand.tmp 49, Operand.tmp 54], argTypes := #[26, 9] }, type := 3, pos := "law.go:128", after := #[{ on := 1, ground := Ground.data }, { on := 6, ground := Ground.data }], guard := none } : Oper) (args := #[.pointer (some ⟨g, 0, none⟩), .string s1]) (v := .int .i64 (x1 : Int)) own23 rfl rfl (by kernel_rfl) rfl rfl (H1.out (q + 1)) ?_
          rintro w' rfl
          refine ⟨hS, ?_⟩
          simp only [Act.put, List.setIfInBounds_toArray, List.set_cons_zero, List.set_cons_succ]
          refine h_call 14 ({ dst := some 62, op := Op.call { callee := Callee.value (Operand.func 23), args := #[Operand.tmp 56, Operand.tmp 61], argTypes := #[26, 9] }, type := 3, pos := "law.go:128", after := #[{ on := 8, ground := Ground.data }, { on := 13, ground := Ground.data }, { on := 7, ground := Ground.chain }], guard := none } : Oper) (args := #[.pointer (some ⟨g, 0, none⟩), .string s2]) (v := .int .i64 (x2 : Int)) own23 rfl rfl (by kernel_rfl) rfl rfl (H2.out (q + 1)) ?_
          rintro w' rfl
          refine ⟨hS, ?_⟩
          simp only [Act.put, List.setIfInBounds_toArray, List.set_cons_zero, List.set_cons_succ]
          refine h_call 15 ({ dst := some 63, op := Op.call { callee := Callee.value (Operand.func 14), args := #[Operand.tmp 48, Operand.tmp 55, Operand.tmp 62], argTypes := #[26, 3, 3] }, type := 4, pos := "law.go:128", after := #[{ on := 0, ground := Ground.data }, { on := 7, ground := Ground.data }, { on := 14, ground := Ground.data }, { on := 14, ground := Ground.chain }], guard := none } : Oper) (args := #[.pointer (some ⟨g, 0, none⟩), .int .i64 (x1 : Int), .int .i64 (x2 : Int)]) (v := .bool true) own14 rfl rfl (by kernel_rfl) rfl rfl (H3.out (q + 1)) ?_
          rintro w' ⟨q2, rfl⟩
          have hS : ∃ q0, (w2.drewN (q + 1)).drewN q2 = w2.drewN q0 := ⟨q + 1 + q2, drewN_add _ _ _⟩
          refine ⟨hS, ?_⟩
          simp only [Act.put, List.setIfInBounds_toArray, List.set_cons_zero, List.set_cons_succ]
          refine h_pure 16 ({ dst := some 64, op := Op.unOp UnOp.not 4 (Operand.tmp 63), type := 4, pos := "law.go:128", after := #[{ on := 15, ground := Ground.data }], guard := none } : Oper) (.bool false) (by kernel_rfl) rfl (by kernel_rfl) (by kernel_rfl) (fun _ _ _ h => h) rfl (y_not rfl rfl) hS ?_
          simp only [Act.put, List.setIfInBounds_toArray, List.set_cons_zero, List.set_cons_succ]
          refine wpAnyH_done (by kernel_rfl) ?_ _
          go_wp2
          go_roundw
          case rel => exact ⟨k + 1, by omega, by go_num, _, rfl⟩
          case measure => simp [intOf]; omega
        · have hlz : ¬ (k : Int) < (ps.length : Int) := by omega
          have hW7 := hW.drewN q
          have hA7 := HA2.out.below (below_drewN (Below.refl _ w2) q)
          clear hW HST HB2 HA2
          go_upto_region 16 with (go_at_call 30; refine (covers_any g l u dd _ h16 HLT.out.fitU HLT.out.fitD hW7.2.2).mono ?_; rintro e w7 ⟨Ak, ck, rfl, hN, hb7, hAk⟩)
          have hW8 : LW w g l u dd w7 := ⟨hW7.1, hW7.2.1.trans (hb7.mono hW7.2.1.size), hW7.2.2.below hb7⟩
          have HA7 := Lib.hid (hA7.below hb7)
          have HN := Lib.hid hN
          have HM := Lib.hid (fun j (hj : j < (cvTo l.length u dd l.length).length) => cv_mem (List.getElem_mem hj))
          have hcl : (cvTo l.length u dd l.length).length ≤ 256 := by
            have h1 := cvTo_len l.length u dd l.length
            have h2 : l.length * l.length ≤ 16 * 16 := Nat.mul_le_mul h16 h16
            omega
          clear hb7 hN hA7 hW7
          generalize hcv : cvTo l.length u dd l.length = cv at *
          have HCE := Lib.hid hcv
          clear hcv
          go_loopw [11, 12] (fun v11 iv wr => ∃ k : Nat, k ≤ cv.length ∧ iv = .int .i64 (k : Int) ∧ OwP wr w7.heap.size v11 (cvP l (cv.take k)) ∧ Below w7.heap.size w7 wr) (fun _ iv _ => cv.length - (intOf iv).toNat)
          case atStart => exact ⟨0, by omega, rfl, OwP.nil _ _, Below.refl _ _⟩
          case round =>
            obtain ⟨k, hk, rfl, hr11, hB7⟩ := hrel
            by_cases hlt : k < cv.length
            · have hlz : (k : Int) < (cv.length : Int) := by omega
              obtain ⟨bk, ok, rfl, hbk, hcell⟩ := HN.out (by omega)
              obtain ⟨bn, on, rfl, hbn, hnm⟩ := HA7.out hpos
              obtain ⟨c1, c2⟩ := hcell k hlt
              obtain ⟨hx, hy, hxy⟩ := HM.out k hlt
              have HSU := Lib.hid (cvP_succ l cv k hlt)
              generalize cv[k].1 = x at *
              generalize cv[k].2 = y at *
              have n1 := (hnm x hx).trans (by rw [getD_get hx])
              have n2 := (hnm y hy).trans (by rw [getD_get hy])
              have hne : ((x : Int) == (y : Int)) = false := by
                unfold isC at hxy
                rw [Bool.and_eq_true, bne_iff_ne] at hxy
                rw [beq_eq_false_iff_ne]; have := hxy.1; omega
              have h3 := fun w' h => below_in g l u dd x y w' h16 HLT.out.fitU hx hy (hW8.2.2.below h)
              rw [cv_le hxy] at h3
              have H3 := Lib.hid h3
              clear h3 hxy hcell hnm
              go_upto_region 18 with fail
              refine wp_region_held (S := fun w' => Below w7.heap.size w7 w') (by kernel_rfl) ?_
              have hS := below_drewN hB7 1
              refine h_pure 0 ({ dst := some 73, op := Op.move (Operand.tmp 10), type := 41, pos := "law.go:135", after := #[], guard := none } : Oper) (.slice (some ⟨bk, ok, none⟩) cv.length ck) (by kernel_rfl) rfl (by kernel_rfl) (by kernel_rfl) (fun _ _ _ h => h) rfl (y_move rfl rfl) hS ?_
              simp only [Act.put, List.setIfInBounds_toArray, List.set_cons_zero, List.set_cons_succ]
              refine h_pure 1 ({ dst := some 74, op := Op.move (Operand.tmp 12), type := 3, pos := "law.go:135", after := #[], guard := none } : Oper) (.int .i64 (k : Int)) (by kernel_rfl) rfl (by kernel_rfl) (by kernel_rfl) (fun _ _ _ h => h) rfl (y_move rfl rfl) hS ?_
              simp only [Act.put, List.setIfInBounds_toArray, List.set_cons_zero, List.set_cons_succ]
              refine h_pure 2 ({ dst := some 75, op := Op.indexAddr 41 (Operand.tmp 73) (Operand.tmp 74), type := 0, pos := "law.go:135", after := #[{ on := 0, ground := Ground.data }, { on := 1, ground := Ground.data }], guard := none } : Oper) (.pointer (some ⟨bk, ok + k * 2, none⟩)) (by kernel_rfl) rfl (by kernel_rfl) (by kernel_rfl) (fun _ _ _ h => h) rfl (y_index41 rfl rfl rfl hlt) hS ?_
              simp only [Act.put, List.setIfInBounds_toArray, List.set_cons_zero, List.set_cons_succ]
              refine h_pure 3 ({ dst := some 76, op := Op.indexAddr 46 (Operand.tmp 75) (Operand.const (Value.int IntKind.i64 0)), type := 0, pos := "law.go:135", after := #[{ on := 2, ground := Ground.data }], guard := none } : Oper) (.pointer (some ⟨bk, ok + k * 2, none⟩)) (by kernel_rfl) rfl (by kernel_rfl) (by kernel_rfl) (fun _ _ _ h => h) rfl (y_at rfl rfl rfl (run_index46_0 _ _)) hS ?_
              simp only [Act.put, List.setIfInBounds_toArray, List.set_cons_zero, List.set_cons_succ]
              refine h_pure 4 ({ dst := some 77, op := Op.load 3 (Operand.tmp 76), type := 3, pos := "law.go:135", after := #[{ on := 3, ground := Ground.data }], guard := none } : Oper) (.int .i64 (x : Int)) (by kernel_rfl) rfl (by kernel_rfl) (by kernel_rfl) (fun _ _ _ h => h) rfl (y_load3 rfl rfl (fun w' h => (Below.cell h (p := ⟨bk, ok + k * 2, none⟩) hbk).trans c1)) hS ?_
              simp only [Act.put, List.setIfInBounds_toArray, List.set_cons_zero, List.set_cons_succ]
              refine h_pure 5 ({ dst := some 78, op := Op.move (Operand.tmp 10), type := 41, pos := "law.go:135", after := #[], guard := none } : Oper) (.slice (some ⟨bk, ok, none⟩) cv.length ck) (by kernel_rfl) rfl (by kernel_rfl) (by kernel_rfl) (fun _ _ _ h => h) rfl (y_move rfl rfl) hS ?_
              simp only [Act.put, List.setIfInBounds_toArray, List.set_cons_zero, List.set_cons_succ]
              refine h_pure 6 ({ dst := some 79, op := Op.move (Operand.tmp 12), type := 3, pos := "law.go:135", after := #[], guard := none } : Oper) (.int .i64 (k : Int)) (by kernel_rfl) rfl (by kernel_rfl) (by kernel_rfl) (fun _ _ _ h => h) rfl (y_move rfl rfl) hS ?_
              simp only [Act.put, List.setIfInBounds_toArray, List.set_cons_zero, List.set_cons_succ]
              refine h_pure 7 ({ dst := some 80, op := Op.indexAddr 41 (Operand.tmp 78) (Operand.tmp 79), type := 0, pos := "law.go:135", after := #[{ on := 5, ground := Ground.data }, { on := 6, ground := Ground.data }], guard := none } : Oper) (.pointer (some ⟨bk, ok + k * 2, none⟩)) (by kernel_rfl) rfl (by kernel_rfl) (by kernel_rfl) (fun _ _ _ h => h) rfl (y_index41 rfl rfl rfl hlt) hS ?_
              simp only [Act.put, List.setIfInBounds_toArray, List.set_cons_zero, List.set_cons_succ]
              refine h_pure 8 ({ dst := some 81, op := Op.indexAddr 46 (Operand.tmp 80) (Operand.const (Value.int IntKind.i64 1)), type := 0, pos := "law.go:135", after := #[{ on := 7, ground := Ground.data }], guard := none } : Oper) (.pointer (some ⟨bk, ok + k * 2 + 1, none⟩)) (by kernel_rfl) rfl (by kernel_rfl) (by kernel_rfl) (fun _ _ _ h => h) rfl (y_at rfl rfl rfl (run_index46_1 _ _)) hS ?_
              simp only [Act.put, List.setIfInBounds_toArray, List.set_cons_zero, List.set_cons_succ]
              refine h_pure 9 ({ dst := some 82, op := Op.load 3 (Operand.tmp 81), type := 3, pos := "law.go:135", after := #[{ on := 8, ground := Ground.data }], guard := none } : Oper) (.int .i64 (y : Int)) (by kernel_rfl) rfl (by kernel_rfl) (by kernel_rfl) (fun _ _ _ h => h) rfl (y_load3 rfl rfl (fun w' h => (Below.cell h (p := ⟨bk, ok + k * 2 + 1, none⟩) hbk).trans c2)) hS ?_
              simp only [Act.put, List.setIfInBounds_toArray, List.set_cons_zero, List.set_cons_succ]
              refine h_pure 10 ({ dst := some 83, op := Op.binOp BinOp.eql 3 (Operand.tmp 77) (Operand.tmp 82) 3, type := 4, pos := "law.go:135", after := #[{ on := 4, ground := Ground.data }, { on := 9, ground := Ground.data }], guard := none } : Oper) (.bool false) (by kernel_rfl) rfl (by kernel_rfl) (by kernel_rfl) (fun _ _ _ h => h) rfl (y_eqlI rfl rfl rfl hne) hS ?_
              simp only [Act.put, List.setIfInBounds_toArray, List.set_cons_zero, List.set_cons_succ]
              refine h_pure 11 ({ dst := some 84, op := Op.move (Operand.tmp 83), type := 4, pos := "law.go:135", after := #[{ on := 10, ground := Ground.data }], guard := none } : Oper) (.bool false) (by kernel_rfl) rfl (by kernel_rfl) (by kernel_rfl) (fun _ _ _ h => h) rfl (y_move rfl rfl) hS ?_
              simp only [Act.put, List.setIfInBounds_toArray, List.set_cons_zero, List.set_cons_succ]
              refine h_pure 12 ({ dst := some 85, op := Op.move (Operand.tmp 7), type := 26, pos := "law.go:135", after := #[{ on := 11, ground := Ground.guard }], guard := some (11, false) } : Oper) (.pointer (some ⟨g, 0, none⟩)) (by kernel_rfl) rfl (by kernel_rfl) (by kernel_rfl) (fun _ _ _ h => h) rfl (y_move rfl rfl) hS ?_
              simp only [Act.put, List.setIfInBounds_toArray, List.set_cons_zero, List.set_cons_succ]
              refine h_pure 13 ({ dst := some 86, op := Op.move (Operand.tmp 10), type := 41, pos := "law.go:135", after := #[{ on := 11, ground := Ground.guard }], guard := some (11, false) } : Oper) (.slice (some ⟨bk, ok, none⟩) cv.length ck) (by kernel_rfl) rfl (by kernel_rfl) (by kernel_rfl) (fun _ _ _ h => h) rfl (y_move rfl rfl) hS ?_
              simp only [Act.put, List.setIfInBounds_toArray, List.set_cons_zero, List.set_cons_succ]
              refine h_pure 14 ({ dst := some 87, op := Op.move (Operand.tmp 12), type := 3, pos := "law.go:135", after := #[{ on := 11, ground := Ground.guard }], guard := some (11, false) } : Oper) (.int .i64 (k : Int)) (by kernel_rfl) rfl (by kernel_rfl) (by kernel_rfl) (fun _ _ _ h => h) rfl (y_move rfl rfl) hS ?_
              simp only [Act.put, List.setIfInBounds_toArray, List.set_cons_zero, List.set_cons_succ]
              refine h_pure 15 ({ dst := some 88, op := Op.indexAddr 41 (Operand.tmp 86) (Operand.tmp 87), type := 0, pos := "law.go:135", after := #[{ on := 13, ground := Ground.data }, { on := 14, ground := Ground.data }, { on := 11, ground := Ground.guard }], guard := some (11, false) } : Oper) (.pointer (some ⟨bk, ok + k * 2, none⟩)) (by kernel_rfl) rfl (by kernel_rfl) (by kernel_rfl) (fun _ _ _ h => h) rfl (y_index41 rfl rfl rfl hlt) hS ?_
              simp only [Act.put, List.setIfInBounds_toArray, List.set_cons_zero, List.set_cons_succ]
              refine h_pure 16 ({ dst := some 89, op := Op.indexAddr 46 (Operand.tmp 88) (Operand.const (Value.int IntKind.i64 0)), type := 0, pos := "law.go:135", after := #[{ on := 15, ground := Ground.data }, { on := 11, ground := Ground.guard }], guard := some (11, false) } : Oper) (.pointer (some ⟨bk, ok + k * 2, none⟩)) (by kernel_rfl) rfl (by kernel_rfl) (by kernel_rfl) (fun _ _ _ h => h) rfl (y_at rfl rfl rfl (run_index46_0 _ _)) hS ?_
              simp only [Act.put, List.setIfInBounds_toArray, List.set_cons_zero, List.set_cons_succ]
              refine h_pure 17 ({ dst := some 90, op := Op.load 3 (Operand.tmp 89), type := 3, pos := "law.go:135", after := #[{ on := 16, ground := Ground.data }, { on := 11, ground := Ground.guard }], guard := some (11, false) } : Oper) (.int .i64 (x : Int)) (by kernel_rfl) rfl (by kernel_rfl) (by kernel_rfl) (fun _ _ _ h => h) rfl (y_load3 rfl rfl (fun w' h => (Below.cell h (p := ⟨bk, ok + k * 2, none⟩) hbk).trans c1)) hS ?_
              simp only [Act.put, List.setIfInBounds_toArray, List.set_cons_zero, List.set_cons_succ]
              refine h_pure 18 ({ dst := some 91, op := Op.move (Operand.tmp 10), type := 41, pos := "law.go:135", after := #[{ on := 11, ground := Ground.guard }], guard := some (11, false) } : Oper) (.slice (some ⟨bk, ok, none⟩) cv.length ck) (by kernel_rfl) rfl (by kernel_rfl) (by kernel_rfl) (fun _ _ _ h => h) rfl (y_move rfl rfl) hS ?_
              simp only [Act.put, List.setIfInBounds_toArray, List.set_cons_zero, List.set_cons_succ]
              refine h_pure 19 ({ dst := some 92, op := Op.move (Operand.tmp 12), type := 3, pos := "law.go:135", after := #[{ on := 11, ground := Ground.guard }], guard := some (11, false) } : Oper) (.int .i64 (k : Int)) (by kernel_rfl) rfl (by kernel_rfl) (by kernel_rfl) (fun _ _ _ h => h) rfl (y_move rfl rfl) hS ?_
              simp only [Act.put, List.setIfInBounds_toArray, List.set_cons_zero, List.set_cons_succ]
              refine h_pure 20 ({ dst := some 93, op := Op.indexAddr 41 (Operand.tmp 91) (Operand.tmp 92), type := 0, pos := "law.go:135", after := #[{ on := 18, ground := Ground.data }, { on := 19, ground := Ground.data }, { on := 11, ground := Ground.guard }], guard := some (11, false) } : Oper) (.pointer (some ⟨bk, ok + k * 2, none⟩)) (by kernel_rfl) rfl (by kernel_rfl) (by kernel_rfl) (fun _ _ _ h => h) rfl (y_index41 rfl rfl rfl hlt) hS ?_
              simp only [Act.put, List.setIfInBounds_toArray, List.set_cons_zero, List.set_cons_succ]
              refine h_pure 21 ({ dst := some 94, op := Op.indexAddr 46 (Operand.tmp 93) (Operand.const (Value.int IntKind.i64 1)), type := 0, pos := "law.go:135", after := #[{ on := 20, ground := Ground.data }, { on := 11, ground := Ground.guard }], guard := some (11, false) } : Oper) (.pointer (some ⟨bk, ok + k * 2 + 1, none⟩)) (by kernel_rfl) rfl (by kernel_rfl) (by kernel_rfl) (fun _ _ _ h => h) rfl (y_at rfl rfl rfl (run_index46_1 _ _)) hS ?_
              simp only [Act.put, List.setIfInBounds_toArray, List.set_cons_zero, List.set_cons_succ]
              refine h_pure 22 ({ dst := some 95, op := Op.load 3 (Operand.tmp 94), type := 3, pos := "law.go:135", after := #[{ on := 21, ground := Ground.data }, { on := 11, ground := Ground.guard }], guard := some (11, false) } : Oper) (.int .i64 (y : Int)) (by kernel_rfl) rfl (by kernel_rfl) (by kernel_rfl) (fun _ _ _ h => h) rfl (y_load3 rfl rfl (fun w' h => (Below.cell h (p := ⟨bk, ok + k * 2 + 1, none⟩) hbk).trans c2)) hS ?_
              simp only [Act.put, List.setIfInBounds_toArray, List.set_cons_zero, List.set_cons_succ]
              refine h_call 23 ({ dst := some 96, op := Op.call { callee := Callee.value (Operand.func 14), args := #[Operand.tmp 85, Operand.tmp 90, Operand.tmp 95], argTypes := #[26, 3, 3] }, type := 4, pos := "law.go:135", after := #[{ on := 12, ground := Ground.data }, { on := 17, ground := Ground.data }, { on := 22, ground := Ground.data }, { on := 11, ground := Ground.chain }, { on := 11, ground := Ground.guard }], guard := some (11, false) } : Oper) (args := #[.pointer (some ⟨g, 0, none⟩), .int .i64 (x : Int), .int .i64 (y : Int)]) (v := .bool true) own14 rfl rfl (by kernel_rfl) rfl rfl (H3.out _ hS) ?_
              rintro w' ⟨q2, rfl⟩
              have hS3 := below_drewN hS q2
              refine ⟨hS3, ?_⟩
              have hS := hS3
              simp only [Act.put, List.setIfInBounds_toArray, List.set_cons_zero, List.set_cons_succ]
              refine h_pure 24 ({ dst := some 97, op := Op.unOp UnOp.not 4 (Operand.tmp 96), type := 4, pos := "law.go:135", after := #[{ on := 23, ground := Ground.data }, { on := 11, ground := Ground.guard }], guard := some (11, false) } : Oper) (.bool false) (by kernel_rfl) rfl (by kernel_rfl) (by kernel_rfl) (fun _ _ _ h => h) rfl (y_not rfl rfl) hS ?_
              simp only [Act.put, List.setIfInBounds_toArray, List.set_cons_zero, List.set_cons_succ]
              refine h_pure 25 ({ dst := some 98, op := Op.pick (Operand.tmp 84) (Operand.const (Value.bool true)) (Operand.tmp 97), type := 4, pos := "law.go:135", after := #[{ on := 11, ground := Ground.data }, { on := 24, ground := Ground.data }], guard := none } : Oper) (.bool false) (by kernel_rfl) rfl (by kernel_rfl) (by kernel_rfl) (fun _ _ _ h => h) rfl (y_pickF rfl rfl rfl) hS ?_
              simp only [Act.put, List.setIfInBounds_toArray, List.set_cons_zero, List.set_cons_succ]
              refine wpAnyH_done (by kernel_rfl) ?_ _
              go_upto_region 20 with fail
              refine gen_world (fun w2 => Below w7.heap.size w7 w2 ∧ OwP w2 w7.heap.size u11 (cvP l (cv.take k))) ⟨hS, hr11⟩ ?_
              rintro wz ⟨hBz, hrz⟩
              refine wp_region_held (S := fun w' => Below w7.heap.size w7 w') (by kernel_rfl) ?_
              have hS := below_drewN hBz 1
              refine h_pure 0 ({ dst := some 99, op := Op.move (Operand.tmp 11), type := 23, pos := "law.go:138", after := #[], guard := none } : Oper) (u11) (by kernel_rfl) rfl (by kernel_rfl) (by kernel_rfl) (fun _ _ _ h => h) rfl (y_move rfl rfl) hS ?_
              simp only [Act.put, List.setIfInBounds_toArray, List.set_cons_zero, List.set_cons_succ]
              refine h_pure 1 ({ dst := some 100, op := Op.move (Operand.tmp 0), type := 22, pos := "law.go:138", after := #[], guard := none } : Oper) (.slice (some ⟨bn, on, none⟩) l.length c) (by kernel_rfl) rfl (by kernel_rfl) (by kernel_rfl) (fun _ _ _ h => h) rfl (y_move rfl rfl) hS ?_
              simp only [Act.put, List.setIfInBounds_toArray, List.set_cons_zero, List.set_cons_succ]
              refine h_pure 2 ({ dst := some 101, op := Op.move (Operand.tmp 10), type := 41, pos := "law.go:138", after := #[], guard := none } : Oper) (.slice (some ⟨bk, ok, none⟩) cv.length ck) (by kernel_rfl) rfl (by kernel_rfl) (by kernel_rfl) (fun _ _ _ h => h) rfl (y_move rfl rfl) hS ?_
              simp only [Act.put, List.setIfInBounds_toArray, List.set_cons_zero, List.set_cons_succ]
              refine h_pure 3 ({ dst := some 102, op := Op.move (Operand.tmp 12), type := 3, pos := "law.go:138", after := #[], guard := none } : Oper) (.int .i64 (k : Int)) (by kernel_rfl) rfl (by kernel_rfl) (by kernel_rfl) (fun _ _ _ h => h) rfl (y_move rfl rfl) hS ?_
              simp only [Act.put, List.setIfInBounds_toArray, List.set_cons_zero, List.set_cons_succ]
              refine h_pure 4 ({ dst := some 103, op := Op.indexAddr 41 (Operand.tmp 101) (Operand.tmp 102), type := 0, pos := "law.go:138", after := #[{ on := 2, ground := Ground.data }, { on := 3, ground := Ground.data }], guard := none } : Oper) (.pointer (some ⟨bk, ok + k * 2, none⟩)) (by kernel_rfl) rfl (by kernel_rfl) (by kernel_rfl) (fun _ _ _ h => h) rfl (y_index41 rfl rfl rfl hlt) hS ?_
              simp only [Act.put, List.setIfInBounds_toArray, List.set_cons_zero, List.set_cons_succ]
              refine h_pure 5 ({ dst := some 104, op := Op.indexAddr 46 (Operand.tmp 103) (Operand.const (Value.int IntKind.i64 0)), type := 0, pos := "law.go:138", after := #[{ on := 4, ground := Ground.data }], guard := none } : Oper) (.pointer (some ⟨bk, ok + k * 2, none⟩)) (by kernel_rfl) rfl (by kernel_rfl) (by kernel_rfl) (fun _ _ _ h => h) rfl (y_at rfl rfl rfl (run_index46_0 _ _)) hS ?_
              simp only [Act.put, List.setIfInBounds_toArray, List.set_cons_zero, List.set_cons_succ]
              refine h_pure 6 ({ dst := some 105, op := Op.load 3 (Operand.tmp 104), type := 3, pos := "law.go:138", after := #[{ on := 5, ground := Ground.data }], guard := none } : Oper) (.int .i64 (x : Int)) (by kernel_rfl) rfl (by kernel_rfl) (by kernel_rfl) (fun _ _ _ h => h) rfl (y_load3 rfl rfl (fun w' h => (Below.cell h (p := ⟨bk, ok + k * 2, none⟩) hbk).trans c1)) hS ?_
              simp only [Act.put, List.setIfInBounds_toArray, List.set_cons_zero, List.set_cons_succ]
              refine h_pure 7 ({ dst := some 106, op := Op.indexAddr 22 (Operand.tmp 100) (Operand.tmp 105), type := 0, pos := "law.go:138", after := #[{ on := 1, ground := Ground.data }, { on := 6, ground := Ground.data }], guard := none } : Oper) (.pointer (some ⟨bn, on + x, none⟩)) (by kernel_rfl) rfl (by kernel_rfl) (by kernel_rfl) (fun _ _ _ h => h) rfl (y_index rfl rfl rfl hx) hS ?_
              simp only [Act.put, List.setIfInBounds_toArray, List.set_cons_zero, List.set_cons_succ]
              refine h_pure 8 ({ dst := some 107, op := Op.load 9 (Operand.tmp 106), type := 9, pos := "law.go:138", after := #[{ on := 7, ground := Ground.data }], guard := none } : Oper) (.string (l.getD x ⟨#[]⟩)) (by kernel_rfl) rfl (by kernel_rfl) (by kernel_rfl) (fun _ _ _ h => h) rfl (y_load9 rfl rfl (fun w' h => (Below.cell h (p := ⟨bn, on + x, none⟩) hbn).trans n1)) hS ?_
              simp only [Act.put, List.setIfInBounds_toArray, List.set_cons_zero, List.set_cons_succ]
              refine h_pure 9 ({ dst := some 108, op := Op.move (Operand.tmp 0), type := 22, pos := "law.go:138", after := #[], guard := none } : Oper) (.slice (some ⟨bn, on, none⟩) l.length c) (by kernel_rfl) rfl (by kernel_rfl) (by kernel_rfl) (fun _ _ _ h => h) rfl (y_move rfl rfl) hS ?_
              simp only [Act.put, List.setIfInBounds_toArray, List.set_cons_zero, List.set_cons_succ]
              refine h_pure 10 ({ dst := some 109, op := Op.move (Operand.tmp 10), type := 41, pos := "law.go:138", after := #[], guard := none } : Oper) (.slice (some ⟨bk, ok, none⟩) cv.length ck) (by kernel_rfl) rfl (by kernel_rfl) (by kernel_rfl) (fun _ _ _ h => h) rfl (y_move rfl rfl) hS ?_
              simp only [Act.put, List.setIfInBounds_toArray, List.set_cons_zero, List.set_cons_succ]
              refine h_pure 11 ({ dst := some 110, op := Op.move (Operand.tmp 12), type := 3, pos := "law.go:138", after := #[], guard := none } : Oper) (.int .i64 (k : Int)) (by kernel_rfl) rfl (by kernel_rfl) (by kernel_rfl) (fun _ _ _ h => h) rfl (y_move rfl rfl) hS ?_
              simp only [Act.put, List.setIfInBounds_toArray, List.set_cons_zero, List.set_cons_succ]
              refine h_pure 12 ({ dst := some 111, op := Op.indexAddr 41 (Operand.tmp 109) (Operand.tmp 110), type := 0, pos := "law.go:138", after := #[{ on := 10, ground := Ground.data }, { on := 11, ground := Ground.data }], guard := none } : Oper) (.pointer (some ⟨bk, ok + k * 2, none⟩)) (by kernel_rfl) rfl (by kernel_rfl) (by kernel_rfl) (fun _ _ _ h => h) rfl (y_index41 rfl rfl rfl hlt) hS ?_
              simp only [Act.put, List.setIfInBounds_toArray, List.set_cons_zero, List.set_cons_succ]
              refine h_pure 13 ({ dst := some 112, op := Op.indexAddr 46 (Operand.tmp 111) (Operand.const (Value.int IntKind.i64 1)), type := 0, pos := "law.go:138", after := #[{ on := 12, ground := Ground.data }], guard := none } : Oper) (.pointer (some ⟨bk, ok + k * 2 + 1, none⟩)) (by kernel_rfl) rfl (by kernel_rfl) (by kernel_rfl) (fun _ _ _ h => h) rfl (y_at rfl rfl rfl (run_index46_1 _ _)) hS ?_
              simp only [Act.put, List.setIfInBounds_toArray, List.set_cons_zero, List.set_cons_succ]
              refine h_pure 14 ({ dst := some 113, op := Op.load 3 (Operand.tmp 112), type := 3, pos := "law.go:138", after := #[{ on := 13, ground := Ground.data }], guard := none } : Oper) (.int .i64 (y : Int)) (by kernel_rfl) rfl (by kernel_rfl) (by kernel_rfl) (fun _ _ _ h => h) rfl (y_load3 rfl rfl (fun w' h => (Below.cell h (p := ⟨bk, ok + k * 2 + 1, none⟩) hbk).trans c2)) hS ?_
              simp only [Act.put, List.setIfInBounds_toArray, List.set_cons_zero, List.set_cons_succ]
              refine h_pure 15 ({ dst := some 114, op := Op.indexAddr 22 (Operand.tmp 108) (Operand.tmp 113), type := 0, pos := "law.go:138", after := #[{ on := 9, ground := Ground.data }, { on := 14, ground := Ground.data }], guard := none } : Oper) (.pointer (some ⟨bn, on + y, none⟩)) (by kernel_rfl) rfl (by kernel_rfl) (by kernel_rfl) (fun _ _ _ h => h) rfl (y_index rfl rfl rfl hy) hS ?_
              simp only [Act.put, List.setIfInBounds_toArray, List.set_cons_zero, List.set_cons_succ]
              refine h_pure 16 ({ dst := some 115, op := Op.load 9 (Operand.tmp 114), type := 9, pos := "law.go:138", after := #[{ on := 15, ground := Ground.data }], guard := none } : Oper) (.string (l.getD y ⟨#[]⟩)) (by kernel_rfl) rfl (by kernel_rfl) (by kernel_rfl) (fun _ _ _ h => h) rfl (y_load9 rfl rfl (fun w' h => (Below.cell h (p := ⟨bn, on + y, none⟩) hbn).trans n2)) hS ?_
              simp only [Act.put, List.setIfInBounds_toArray, List.set_cons_zero, List.set_cons_succ]
              refine h_pure 17 ({ dst := some 116, op := Op.build 45 #[(0, Operand.tmp 107), (1, Operand.tmp 115)], type := 45, pos := "law.go:138", after := #[{ on := 8, ground := Ground.data }, { on := 16, ground := Ground.data }], guard := none } : Oper) (.agg #[.string (l.getD x ⟨#[]⟩), .string (l.getD y ⟨#[]⟩)]) (by kernel_rfl) rfl (by kernel_rfl) (by kernel_rfl) (fun _ _ _ h => h) rfl (y_build45 rfl rfl rfl) hS ?_
              simp only [Act.put, List.setIfInBounds_toArray, List.set_cons_zero, List.set_cons_succ]
              refine wpAnyH_all (rs := [18]) (by kernel_rfl) (by simp) fun q hq => ?_
              obtain rfl : q = 18 := by simpa using hq
              clear hq
              refine o_buildP (o := { dst := some 117, op := Op.buildSlice 23 1 #[(0, Operand.tmp 116)], type := 23, pos := "law.go:138", after := #[{ on := 17, ground := Ground.data }], guard := none }) (x := .tmp 116) rfl rfl rfl rfl ?_
              have hS2 := hS.alloc hS.size (.cells #[.string (l.getD x ⟨#[]⟩), .string (l.getD y ⟨#[]⟩)] 45)
              refine ⟨hS2, ?_⟩
              simp only [Act.put, List.setIfInBounds_toArray, List.set_cons_zero, List.set_cons_succ]
              refine wpAnyH_all (rs := [19]) (by kernel_rfl) (by simp) fun q hq => ?_
              obtain rfl : q = 19 := by simpa using hq
              clear hq
              refine o_appP (o := { dst := some 118, op := Op.call { callee := Callee.builtin Builtin.append, args := #[Operand.tmp 99, Operand.tmp 117], argTypes := #[23, 23] }, type := 23, pos := "law.go:138", after := #[{ on := 0, ground := Ground.data }, { on := 18, ground := Ground.data }], guard := none }) (sl := .tmp 99) (x := .tmp 117) (base := w7.heap.size) (l := cvP l (cv.take k)) (s := l.getD x ⟨#[]⟩) (t := l.getD y ⟨#[]⟩) rfl rfl rfl rfl rfl ((OwP.drawn2 hrz).keep (grown_below (row := none) (heap1 _ _)) (by simp)) (new_c0' _ _ _) (new_c1' _ _ _) (by rw [cvP_len]; omega) hS2.size ?_
              intro v' w4 own4 gr4 blk4
              have hS4 := hS2.grown gr4 hS2.size (fun q hq => (World.ownsRow.lt hrz q hq).1)
              refine ⟨hS4, ?_⟩
              simp only [Act.put, List.setIfInBounds_toArray, List.set_cons_zero, List.set_cons_succ]
              have hS := hS4
              refine h_pure 20 ({ dst := some 11, op := Op.assign (Operand.tmp 118), type := 23, pos := "law.go:138", after := #[{ on := 19, ground := Ground.data }, { on := 19, ground := Ground.chain }, { on := 0, ground := Ground.phase }, { on := 1, ground := Ground.phase }, { on := 2, ground := Ground.phase }, { on := 3, ground := Ground.phase }, { on := 4, ground := Ground.phase }, { on := 5, ground := Ground.phase }, { on := 6, ground := Ground.phase }, { on := 7, ground := Ground.phase }, { on := 8, ground := Ground.phase }, { on := 9, ground := Ground.phase }, { on := 10, ground := Ground.phase }, { on := 11, ground := Ground.phase }, { on := 12, ground := Ground.phase }, { on := 13, ground := Ground.phase }, { on := 14, ground := Ground.phase }, { on := 15, ground := Ground.phase }, { on := 16, ground := Ground.phase }, { on := 17, ground := Ground.phase }, { on := 18, ground := Ground.phase }, { on := 19, ground := Ground.phase }], guard := none } : Oper) (v') (by kernel_rfl) rfl (by kernel_rfl) (by kernel_rfl) (fun _ _ _ h => h) rfl (y_assign rfl rfl) hS ?_
              simp only [Act.put, List.setIfInBounds_toArray, List.set_cons_zero, List.set_cons_succ]
              refine wpAnyH_done (by kernel_rfl) ?_ _
              go_wp2
              go_roundw
              case rel => exact ⟨k + 1, by omega, by go_num, by rw [HSU.out]; exact own4, hS4⟩
              case measure => simp [intOf]; omega
            · have hlz : ¬ (k : Int) < (cv.length : Int) := by omega
              obtain rfl : k = cv.length := by omega
              rw [List.take_length] at hr11
              obtain ⟨Ap, cp, rfl, hPp⟩ := hr11.prs
              have hpl : (cvP l cv).length ≤ maxLen := by unfold cvP maxLen; rw [List.length_map]; omega
              have HN2 := Lib.hid (HNW.out Ap cp (cvP l cv) wr hpl (HA7.out.below hB7) hPp)
              have HE := Lib.hid HCV.out.1
              have hgw := lat_lt2 (hW8.2.2.below hB7)
              have hB0 := bt hW8.2.1 hB7
              have hLg := hW8.2.2.below hB7
              have hNk := HN.out.below hB7
              have hgg := hW8.1
              clear hr11 hPp hpl HNW HM HN HA7 hW8 hB7
              generalize (cvP l cv).length = np at *
              go_upto_region 22 with (go_at_call 10; refine HN2.out.mono ?_; rintro e w9 hP; obtain ⟨g2, hg2, rfl, hb9, hL9⟩ := newOk3 hP HE.out)
              have hT2 := (new_latt HE.out).1
              have HU := Lib.hid HCV.out.2.1
              have HD := Lib.hid HCV.out.2.2
              have hB9 := bt hB0 hb9
              have hLg9 := hLg.below hb9
              have hNk9 := hNk.below hb9
              clear hgw hB0 hLg hNk hgg hb9 hg2 HN2 HE HCV
              generalize uOf l (cvP l cv) = u2 at *
              generalize dOf l (cvP l cv) = d2 at *
              have h30 := fun w' h => covers_any g2 l u2 d2 w' h16 hT2.fitU hT2.fitD h
              rw [cvTo_congr HU.out HD.out l.length (Nat.le_refl _), HCE.out] at h30
              have H30 := Lib.hid h30
              have HF2 := Lib.hid hT2.fitU
              clear h30 hT2 HCE HD
              go_upto_region 25 with (first
                | (go_at_call 30; refine (H30.out _ hL9).mono ?_; rintro e wa ⟨A3, c3, rfl, hN3, hb3, _⟩)
                | (go_at_call 29; refine (same_any A3 Ak c3 ck cv _ hcl hN3 (hNk9.below hb3)).mono ?_; rintro e wb ⟨rfl, q3, rfl⟩))
              have hBa := bt hB9 hb3
              have hLga := hLg9.below hb3
              have hL2a := hL9.below hb3
              clear hN3 hb3 hNk9 hLg9 hL9 hB9 H30
              go_loopw [15] (fun av ws => ∃ a : Nat, a ≤ l.length ∧ av = .int .i64 (a : Int) ∧ ∃ q, ws = wa.drewN q) (fun av _ => l.length - (intOf av).toNat)
              case atStart => exact ⟨0, by omega, rfl, q3, rfl⟩
              case round =>
                obtain ⟨a, ha, rfl, q4, rfl⟩ := hrel
                by_cases hlta : a < l.length
                · have hlaz : (a : Int) < (l.length : Int) := by omega
                  go_upto_region 28 with (go_at_call 20; refine (len_any g l u dd _ (hLga.drewN q4)).mono ?_; rintro e w' ⟨rfl, rfl⟩)
                  go_loopw [16] (fun bv ws => ∃ b : Nat, b ≤ l.length ∧ bv = .int .i64 (b : Int) ∧ ∃ q, ws = wa.drewN q) (fun bv _ => l.length - (intOf bv).toNat)
                  case atStart => exact ⟨0, by omega, rfl, q4, rfl⟩
                  case round =>
                    obtain ⟨b, hb, rfl, q5, rfl⟩ := hrel
                    by_cases hltb : b < l.length
                    · have hlbz : (b : Int) < (l.length : Int) := by omega
                      have h1 := fun q => below_in g l u dd a b (wa.drewN q) h16 HLT.out.fitU hlta hltb (hLga.drewN q)
                      have h2 := fun q => below_in g2 l u2 d2 a b (wa.drewN q) h16 HF2.out hlta hltb (hL2a.drewN q)
                      rw [HU.out a hlta] at h2
                      generalize (u a).testBit b = t at *
                      have H1 := Lib.hid h1
                      have H2 := Lib.hid h2
                      clear h1 h2
                      cases t with
                      | false =>
                        go_wp2_with (first
                          | (go_at_call 20; refine (len_any g l u dd _ (hLga.drewN q5)).mono ?_; rintro e w' ⟨rfl, rfl⟩)
                          | (go_at_call_of 14 (Value.pointer (some ⟨g, 0, none⟩)); refine (H1.out q5).mono ?_; rintro e w' ⟨rfl, q6, rfl⟩)
                          | (go_at_call_of 14 (Value.pointer (some ⟨g2, 0, none⟩)); refine (H2.out (q5 + q6)).mono ?_; rintro e w' ⟨rfl, q7, rfl⟩))
                        go_roundw
                        case rel => exact ⟨b + 1, by omega, by go_num, _, rfl⟩
                        case measure => simp [intOf]; omega
                      | true =>
                        go_wp2_with (first
                          | (go_at_call 20; refine (len_any g l u dd _ (hLga.drewN q5)).mono ?_; rintro e w' ⟨rfl, rfl⟩)
                          | (go_at_call_of 14 (Value.pointer (some ⟨g, 0, none⟩)); refine (H1.out q5).mono ?_; rintro e w' ⟨rfl, q6, rfl⟩)
                          | (go_at_call_of 14 (Value.pointer (some ⟨g2, 0, none⟩)); refine (H2.out (q5 + q6)).mono ?_; rintro e w' ⟨rfl, q7, rfl⟩))
                        go_roundw
                        case rel => exact ⟨b + 1, by omega, by go_num, _, rfl⟩
                        case measure => simp [intOf]; omega
                    · have hlbz : ¬ (b : Int) < (l.length : Int) := by omega
                      go_wp2_with (go_at_call 20; refine (len_any g l u dd _ (hLga.drewN q5)).mono ?_; rintro e w' ⟨rfl, rfl⟩)
                      go_roundw
                      case rel => exact ⟨a + 1, by omega, by go_num, q5, rfl⟩
                      case measure => simp [intOf]; omega
                · have hlaz : ¬ (a : Int) < (l.length : Int) := by omega
                  have hBf := below_drewN hBa q4
                  go_wp2_with (go_at_call 20; refine (len_any g l u dd _ (hLga.drewN q4)).mono ?_; rintro e w' ⟨rfl, rfl⟩)
                  go_ret
                  exact ⟨rfl, hBf⟩
end Go.Proofs.Ytefnbjkmmmdagaa
