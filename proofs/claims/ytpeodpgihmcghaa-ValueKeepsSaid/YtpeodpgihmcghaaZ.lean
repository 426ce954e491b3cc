/- PROVED here: the law ValueKeeps, walked. No condition but those in each theorem's own head. -/
import Derived.Test.YtpeodpgihmcghaaW
import Derived.Test.YtpeodpgihmcghaaY
namespace Go.Proofs.Ytpeodpgihmcghaa
open Go Go.RowKit Go.Sort

set_option maxRecDepth 100000 in
set_option maxHeartbeats 8000000 in
theorem valueKeeps_w (A : Option Addr) (c : Nat) (l : List AV) (ak an ik iN num bk bn kk kn : Int) (w : World) (hA : Acts w A l) : Calls Try.prog 6 #[.slice A l.length c, .agg #[.int .i64 ak, .int .i64 an], .agg #[.int .i64 ik, .int .i64 iN], .int .i64 num, .agg #[.int .i64 bk, .int .i64 bn], .agg #[.int .i64 kk, .int .i64 kn]] w (VPost (.bool true) w) := by
  have HSH := Lib.hid (fun W => shown_any W)
  have HB4 := B4.new w ak an ik iN bk bn kk kn
  have hb0 := B4.grow w ak an ik iN bk bn kk kn
  have HA := Lib.hid (hA.below hb0)
  have HN23 := Lib.hid (fun n W => numb n W)
  obtain ⟨n, hn⟩ : ∃ n, l.length = n := ⟨_, rfl⟩
  rw [hn]
  have HN := Lib.hid hn
  clear hA hn
  obtain ⟨W0, hW0⟩ : ∃ W0, ((((w.alloc (.cells #[.int .i64 ak, .int .i64 an] 23)).alloc (.cells #[.int .i64 ik, .int .i64 iN] 23)).alloc (.cells #[.int .i64 bk, .int .i64 bn] 23)).alloc (.cells #[.int .i64 kk, .int .i64 kn] 23)) = W0 := ⟨_, rfl⟩
  rw [hW0] at HB4 HA hb0
  have HQ := Lib.hid HB4
  have HB0 := Lib.hid hb0
  clear HB4 hb0
  go_enter Try.func6, Try.ntmps6
  go_upto_region 1 with (fail)
  clear hW0
  by_cases hl : 30 < (n : Int)
  · go_wp2_with (go_at_call 8; refine (HSH.out _).mono ?_)
    rintro e w1 ⟨rfl, hb1⟩
    have HB1 := Lib.hid (bt HB0.out hb1)
    clear hb1
    go_wp2
    go_ret
    exact ⟨rfl, HB1.out⟩
  go_wp2_with (go_at_call 8; refine (HSH.out _).mono ?_)
  rintro e w1 ⟨rfl, hb1⟩
  have HT := Lib.hid (Hp.new46 w1 W0.heap.size hb1.size)
  have HB := Lib.hid (hb1.alloc hb1.size (.cells #[.slice none 0 0, .int .i64 0] 46))
  clear hb1
  have hln : (n : Int) ≤ 30 := by omega
  go_wp2
  generalize w1.heap.size = g1 at *
  go_loopw [15] (fun i wr => ∃ (k : Nat) (v1 : Value) (vs1 : List Value) (L : List (List Int)), k ≤ n ∧ i = .int .i64 (k : Int) ∧ Hp 46 C46 wr W0.heap.size g1 v1 vs1 L ∧ Below W0.heap.size W0 wr) (fun i _ => n - (intOf i).toNat)
  case atStart => exact ⟨0, _, _, _, Nat.zero_le _, rfl, HT.out, HB.out⟩
  case round =>
    obtain ⟨k, v1, vs1, L, hk, rfl, hT, hb⟩ := hrel
    obtain ⟨W1, rfl⟩ : ∃ W1, W1 = wr := ⟨_, rfl⟩
    by_cases hlt : k < n
    · have hkz : (k : Int) < (n : Int) := by omega
      have hkl : k < l.length := by rw [HN.out]; exact hlt
      have hb9 := bt hb (heap1 W1 (.cells #[.slice none 0 0] 49))
      obtain ⟨b, off, rfl, hbl, x0, x1, x2, x3, x4, x5, x6, x7⟩ := (HA.out.below hb9).at_ hkl
      generalize l[k] = a at *
      have hF0 := Two.fresh hT hb.size
      have HD := Lib.hid (does_any hF0 a)
      have HB1 := Lib.hid (And.intro hF0 hb9)
      have HK := Lib.hid hlt
      clear hT hb hk hF0 hb9 hbl
      go_wp2_with (go_at_call 15; refine HD.out.mono ?_)
      rintro e w2 ⟨bo, v1', vs1', v2', vs2', rfl, -, hT2, hF⟩
      have hb2 : Below W0.heap.size W0 w2 := HB1.out.2.trans (hF.to_below HB1.out.2.size (fun x hx => hx.elim (fun q => HB1.out.1.h1.foot q) (fun q => HB1.out.1.h2.foot q)))
      have HE := Lib.hid (And.intro hT2.h1 hb2)
      generalize actH L a = M at *
      clear hT2 hF hb2 x0 x1 x2 x3 x4 x5 x6 x7
      go_wp2
      go_roundw
      case rel => exact ⟨k + 1, _, _, _, by have := HK.out; omega, by go_num, HE.out.1, HE.out.2⟩
      case measure => have := HK.out; simp [intOf]; omega
    · obtain rfl : k = n := by omega
      have hkz : ¬ (k : Int) < (k : Int) := by omega
      have H1 := Lib.hid hT
      have HB1 := Lib.hid hb
      have HQ1 := Lib.hid (HQ.out.below hb)
      clear hT hb hk hlt HT HB HQ HA
      by_cases hwr : wrongH L ak an ik iN = 0
      · obtain ⟨⟨⟨p, q⟩, e0⟩, hG1⟩ : ∃ R, getV L ak an ik iN = R := ⟨_, rfl⟩
        have he := get_err L ak an ik iN
        rw [hG1, hwr] at he
        dsimp only at he
        replace he := he.symm
        subst he
        obtain ⟨⟨⟨p2, q2⟩, f0⟩, hG2⟩ : ∃ R, getV L bk bn kk kn = R := ⟨_, rfl⟩
        obtain ⟨⟨⟨p3, q3⟩, f3⟩, hG3⟩ : ∃ R, getV (setH L ak an ik iN 1 num) bk bn kk kn = R := ⟨_, rfl⟩
        have hf := get_err (setH L ak an ik iN 1 num) bk bn kk kn
        rw [wrong_set, ← get_err, hG2, hG3] at hf
        dsimp only at hf
        replace hf := hf.symm
        subst hf
        have hA1 := get_put hwr num
        have haway : ¬ ((ak = bk ∧ an = bn) ∧ (ik = kk ∧ iN = kn)) → p3 = p2 ∧ q3 = q2 := fun hn => by
          rcases get_away hwr num bk bn kk kn with h | h
          · exact absurd ⟨⟨h.1, h.2.1⟩, h.2.2.1, h.2.2.2⟩ hn
          · rw [hG2, hG3] at h
            injection h with h _
            injection h with h1 h2
            exact ⟨h1, h2⟩
        have hcells := set_cells L ak an ik iN 1 num
        obtain ⟨M, hM⟩ : ∃ M, setH L ak an ik iN 1 num = M := ⟨_, rfl⟩
        rw [hM] at hA1 hG3 hcells
        have HV := Lib.hid (And.intro hG1 (And.intro hG2 (And.intro hA1 (And.intro hG3 (And.intro (And.intro hcells haway) (And.intro hwr hM))))))
        clear hG1 hG2 hA1 hG3 hcells haway hwr hM
        have HG := Lib.hid (get_any H1.out ak an ik iN)
        rw [show getV L ak an ik iN = ((p, q), 0) from HV.out.1] at HG
        dsimp only at HG
        have y0 := ((HQ1.out.1).cell 0).trans rfl
        have y1 := ((HQ1.out.1).cell 1).trans rfl
        have y2 := ((HQ1.out.2.1).cell 0).trans rfl
        have y3 := ((HQ1.out.2.1).cell 1).trans rfl
        go_wp2_with (go_at_call 24; refine HG.out.mono ?_)
        rintro e w3 ⟨rfl, hb3⟩
        go_upto_region 10 with (fail)
        have hbn : Below W1.heap.size W1 (w3.alloc (.cells #[.int .i64 p, .int .i64 q] 23)) := hb3.alloc hb3.size _
        have hx := Bx.new w3 23 [.int .i64 p, .int .i64 q]
        obtain ⟨W2, hW⟩ : ∃ W2, w3.alloc (.cells #[.int .i64 p, .int .i64 q] 23) = W2 := ⟨_, rfl⟩
        rw [hW] at hbn ⊢
        rw [show w3.alloc (.cells [Value.int .i64 p, .int .i64 q].toArray 23) = W2 from hW] at hx
        clear hW hb3 y0 y1 y2 y3 HG
        generalize w3.heap.size = t16 at *
        clear w3
        have H2 := Lib.hid (H1.out.below hbn)
        have HQ2 := Lib.hid (HQ1.out.below hbn)
        have HX16 := Lib.hid hx
        have HB2 := Lib.hid (bt HB1.out hbn)
        clear hbn hx
        have HG := Lib.hid (get_any H2.out bk bn kk kn)
        rw [show getV L bk bn kk kn = ((p2, q2), f0) from HV.out.2.1] at HG
        dsimp only at HG
        have y0 := ((HQ2.out.2.2.1).cell 0).trans rfl
        have y1 := ((HQ2.out.2.2.1).cell 1).trans rfl
        have y2 := ((HQ2.out.2.2.2).cell 0).trans rfl
        have y3 := ((HQ2.out.2.2.2).cell 1).trans rfl
        go_wp2_with (go_at_call 24; refine HG.out.mono ?_)
        rintro e w3 ⟨rfl, hb3⟩
        go_upto_region 11 with (fail)
        have hbn : Below W2.heap.size W2 (w3.alloc (.cells #[.int .i64 p2, .int .i64 q2] 23)) := hb3.alloc hb3.size _
        have hx := Bx.new w3 23 [.int .i64 p2, .int .i64 q2]
        obtain ⟨W3, hW⟩ : ∃ W2, w3.alloc (.cells #[.int .i64 p2, .int .i64 q2] 23) = W2 := ⟨_, rfl⟩
        rw [hW] at hbn ⊢
        rw [show w3.alloc (.cells [Value.int .i64 p2, .int .i64 q2].toArray 23) = W3 from hW] at hx
        clear hW hb3 y0 y1 y2 y3 HG
        generalize w3.heap.size = t18 at *
        clear w3
        have H3 := Lib.hid (H2.out.below hbn)
        have HQ3 := Lib.hid (HQ2.out.below hbn)
        have HX16' := Lib.hid (HX16.out.below hbn HX16.out.lt)
        have HX18 := Lib.hid hx
        have HB3 := Lib.hid (bt HB2.out hbn)
        clear hbn hx HX16
        have HC22 := Lib.hid (copy_any H3.out)
        go_wp2_with (go_at_call 22; refine HC22.out.mono ?_)
        rintro e W4 ⟨g2, v2, vs2, rfl, hc, hb4⟩
        go_upto_region 12 with (fail)
        have HC4 := Lib.hid hc
        have HBc := Lib.hid hb4
        have HQ4 := Lib.hid (HQ3.out.below hb4)
        clear hc hb4 HC22
        have y0 : ∀ w', Below W3.heap.size W3 w' → w'.cell? ⟨w.heap.size, 0, none⟩ = some (.int .i64 ak) := fun w' q => (((HQ3.out.below q).1).cell 0).trans rfl
        have y1 : ∀ w', Below W3.heap.size W3 w' → w'.cell? ⟨w.heap.size, 1, none⟩ = some (.int .i64 an) := fun w' q => (((HQ3.out.below q).1).cell 1).trans rfl
        have y2 : ∀ w', Below W3.heap.size W3 w' → w'.cell? ⟨w.heap.size + 1, 0, none⟩ = some (.int .i64 ik) := fun w' q => (((HQ3.out.below q).2.1).cell 0).trans rfl
        have y3 : ∀ w', Below W3.heap.size W3 w' → w'.cell? ⟨w.heap.size + 1, 1, none⟩ = some (.int .i64 iN) := fun w' q => (((HQ3.out.below q).2.1).cell 1).trans rfl
        have HST := Lib.hid (fun W (q : Below W4.heap.size W4 W) => set_any (HC4.out.below q) ak an ik iN 1 num)
        rw [HV.out.2.2.2.2.2.2, HV.out.2.2.2.2.2.1] at HST
        refine wp_region_held (S := fun w' => Below W3.heap.size W3 w') (by kernel_rfl) ?_
        have hS : Below W3.heap.size W3 ({ W4 with drawn := W4.drawn + 1 } : World) := HBc.out.drew
        have hq : Below W4.heap.size W4 ({ W4 with drawn := W4.drawn + 1 } : World) := (Below.refl _ _).drew
        generalize ({ W4 with drawn := W4.drawn + 1 } : World) = V0 at *
        refine hpu 0 (o := ({ dst := some 69, op := Op.move (Operand.tmp 20), type := 38, pos := "law.go:228", after := #[], guard := none } : Oper)) (.pointer (some ⟨g2, 0, none⟩)) (by kernel_rfl) rfl rfl (fun _ _ _ h => h) rfl (by intro w hSw; go_simp) hS ?_
        simp only [ap]
        refine hpu 1 (o := ({ dst := some 70, op := Op.load 23 (Operand.tmp 7), type := 23, pos := "law.go:228", after := #[], guard := none } : Oper)) (.agg #[.int .i64 ak, .int .i64 an]) (by kernel_rfl) rfl rfl (fun _ _ _ h => h) rfl (by intro w hSw; go_simp) hS ?_
        simp only [ap]
        refine hpu 2 (o := ({ dst := some 71, op := Op.load 23 (Operand.tmp 8), type := 23, pos := "law.go:228", after := #[], guard := none } : Oper)) (.agg #[.int .i64 ik, .int .i64 iN]) (by kernel_rfl) rfl rfl (fun _ _ _ h => h) rfl (by intro w hSw; go_simp) hS ?_
        simp only [ap]
        refine hpu 3 (o := ({ dst := some 72, op := Op.move (Operand.tmp 3), type := 3, pos := "law.go:228", after := #[], guard := none } : Oper)) (.int .i64 num) (by kernel_rfl) rfl rfl (fun _ _ _ h => h) rfl (by intro w hSw; go_simp) hS ?_
        simp only [ap]
        refine h_call 4 ({ dst := some 73, op := Op.call { callee := Callee.value (Operand.func 23), args := #[Operand.tmp 72], argTypes := #[3] }, type := 23, pos := "law.go:228", after := #[{ on := 3, ground := Ground.data }], guard := none } : Oper) (fun v w1 => v = .agg #[.int .i64 1, .int .i64 num] ∧ Below V0.heap.size V0 w1) own23 rfl rfl rfl (by kernel_rfl) rfl (args := #[.int .i64 num]) rfl (((HN23.out _ _).mono fun e w1 q => ⟨_, q.1, rfl, q.2⟩)) ?_
        rintro v W5 ⟨rfl, hb5⟩
        have hS := bt hS hb5
        have hq := bt hq hb5
        refine ⟨hS, ?_⟩
        simp only [ap]
        refine h_call 5 ({ dst := some 74, op := Op.call { callee := Callee.value (Operand.func 25), args := #[Operand.tmp 69, Operand.tmp 70, Operand.tmp 71, Operand.tmp 73], argTypes := #[38, 23, 23, 23] }, type := 3, pos := "law.go:228", after := #[{ on := 0, ground := Ground.data }, { on := 1, ground := Ground.data }, { on := 2, ground := Ground.data }, { on := 4, ground := Ground.data }, { on := 4, ground := Ground.chain }], guard := none } : Oper) (fun v w1 => v = .int .i64 0 ∧ Hp 46 C46 w1 W3.heap.size g2 v2 vs2 M ∧ Fr (Fp g2 v2 vs2) W5 w1) own25 rfl rfl rfl (by kernel_rfl) rfl (args := #[.pointer (some ⟨g2, 0, none⟩), .agg #[.int .i64 ak, .int .i64 an], .agg #[.int .i64 ik, .int .i64 iN], .agg #[.int .i64 1, .int .i64 num]]) rfl (((HST.out _ hq).mono fun e w1 q => ⟨_, q.1, rfl, q.2⟩)) ?_
        rintro v W6 ⟨rfl, hc6, hF6⟩
        have hS := hS.trans (hF6.to_below hS.size (fun x hx => HC4.out.foot hx))
        refine ⟨hS, ?_⟩
        simp only [ap]
        refine hpu 6 (o := ({ dst := some 21, op := Op.assign (Operand.tmp 74), type := 3, pos := "law.go:228", after := #[{ on := 5, ground := Ground.data }, { on := 5, ground := Ground.chain }, { on := 0, ground := Ground.phase }, { on := 1, ground := Ground.phase }, { on := 2, ground := Ground.phase }, { on := 3, ground := Ground.phase }, { on := 4, ground := Ground.phase }, { on := 5, ground := Ground.phase }], guard := none } : Oper)) (.int .i64 0) (by kernel_rfl) rfl rfl (fun _ _ _ h => h) rfl (by intro w hSw; go_simp) hS ?_
        simp only [ap]
        refine wpAnyH_done (by kernel_rfl) ?_ _
        have HC6 := Lib.hid hc6
        have H6 := Lib.hid (H3.out.below hS)
        have HQ6 := Lib.hid (HQ3.out.below hS)
        have HX16a := Lib.hid (HX16'.out.below hS HX16'.out.lt)
        have HX18a := Lib.hid (HX18.out.below hS HX18.out.lt)
        have HB6 := Lib.hid (bt HB3.out hS)
        clear hc6 hF6 hS hq hb5 y0 y1 y2 y3 HST HX16' HX18 HQ4 HC4 HBc
        have HG := Lib.hid (get_any HC6.out ak an ik iN)
        rw [show getV M ak an ik iN = ((1, num), 0) from HV.out.2.2.1] at HG
        dsimp only at HG
        have y0 := ((HQ6.out.1).cell 0).trans rfl
        have y1 := ((HQ6.out.1).cell 1).trans rfl
        have y2 := ((HQ6.out.2.1).cell 0).trans rfl
        have y3 := ((HQ6.out.2.1).cell 1).trans rfl
        go_wp2_with (go_at_call 24; refine HG.out.mono ?_)
        rintro e w3 ⟨rfl, hb3⟩
        go_upto_region 14 with (fail)
        have hbn : Below W6.heap.size W6 (w3.alloc (.cells #[.int .i64 1, .int .i64 num] 23)) := hb3.alloc hb3.size _
        have hx := Bx.new w3 23 [.int .i64 1, .int .i64 num]
        obtain ⟨W7, hW⟩ : ∃ W2, w3.alloc (.cells #[.int .i64 1, .int .i64 num] 23) = W2 := ⟨_, rfl⟩
        rw [hW] at hbn ⊢
        rw [show w3.alloc (.cells [Value.int .i64 1, .int .i64 num].toArray 23) = W7 from hW] at hx
        clear hW hb3 y0 y1 y2 y3 HG
        generalize w3.heap.size = t22 at *
        clear w3
        have HC7 := Lib.hid (HC6.out.below hbn)
        have H7 := Lib.hid (H6.out.below hbn)
        have HQ7 := Lib.hid (HQ6.out.below hbn)
        have HX16b := Lib.hid (HX16a.out.below hbn HX16a.out.lt)
        have HX18b := Lib.hid (HX18a.out.below hbn HX18a.out.lt)
        have HX22 := Lib.hid hx
        have HB7 := Lib.hid (bt HB6.out hbn)
        clear hbn hx HX16a HX18a
        have HG := Lib.hid (get_any HC7.out bk bn kk kn)
        rw [show getV M bk bn kk kn = ((p3, q3), f0) from HV.out.2.2.2.1] at HG
        dsimp only at HG
        have y0 := ((HQ7.out.2.2.1).cell 0).trans rfl
        have y1 := ((HQ7.out.2.2.1).cell 1).trans rfl
        have y2 := ((HQ7.out.2.2.2).cell 0).trans rfl
        have y3 := ((HQ7.out.2.2.2).cell 1).trans rfl
        go_wp2_with (go_at_call 24; refine HG.out.mono ?_)
        rintro e w3 ⟨rfl, hb3⟩
        go_upto_region 15 with (fail)
        have hbn : Below W7.heap.size W7 (w3.alloc (.cells #[.int .i64 p3, .int .i64 q3] 23)) := hb3.alloc hb3.size _
        have hx := Bx.new w3 23 [.int .i64 p3, .int .i64 q3]
        obtain ⟨W8, hW⟩ : ∃ W2, w3.alloc (.cells #[.int .i64 p3, .int .i64 q3] 23) = W2 := ⟨_, rfl⟩
        rw [hW] at hbn ⊢
        rw [show w3.alloc (.cells [Value.int .i64 p3, .int .i64 q3].toArray 23) = W8 from hW] at hx
        clear hW hb3 y0 y1 y2 y3 HG
        generalize w3.heap.size = t24 at *
        clear w3
        have HC8 := Lib.hid (HC7.out.below hbn)
        have H8 := Lib.hid (H7.out.below hbn)
        have HQ8 := Lib.hid (HQ7.out.below hbn)
        have HX16c := Lib.hid (HX16b.out.below hbn HX16b.out.lt)
        have HX18c := Lib.hid (HX18b.out.below hbn HX18b.out.lt)
        have HX22c := Lib.hid (HX22.out.below hbn HX22.out.lt)
        have HX24 := Lib.hid hx
        have HB8 := Lib.hid (bt HB7.out hbn)
        clear hbn hx HX16b HX18b HX22
        have HG := Lib.hid (get_any H8.out ak an ik iN)
        rw [show getV L ak an ik iN = ((p, q), 0) from HV.out.1] at HG
        dsimp only at HG
        have y0 := ((HQ8.out.1).cell 0).trans rfl
        have y1 := ((HQ8.out.1).cell 1).trans rfl
        have y2 := ((HQ8.out.2.1).cell 0).trans rfl
        have y3 := ((HQ8.out.2.1).cell 1).trans rfl
        go_wp2_with (go_at_call 24; refine HG.out.mono ?_)
        rintro e w3 ⟨rfl, hb3⟩
        go_upto_region 16 with (fail)
        have hbn : Below W8.heap.size W8 (w3.alloc (.cells #[.int .i64 p, .int .i64 q] 23)) := hb3.alloc hb3.size _
        have hx := Bx.new w3 23 [.int .i64 p, .int .i64 q]
        obtain ⟨W9, hW⟩ : ∃ W2, w3.alloc (.cells #[.int .i64 p, .int .i64 q] 23) = W2 := ⟨_, rfl⟩
        rw [hW] at hbn ⊢
        rw [show w3.alloc (.cells [Value.int .i64 p, .int .i64 q].toArray 23) = W9 from hW] at hx
        clear hW hb3 y0 y1 y2 y3 HG
        generalize w3.heap.size = t26 at *
        clear w3
        have HC9 := Lib.hid (HC8.out.below hbn)
        have H9 := Lib.hid (H8.out.below hbn)
        have HQ9 := Lib.hid (HQ8.out.below hbn)
        have HX16d := Lib.hid (HX16c.out.below hbn HX16c.out.lt)
        have HX18d := Lib.hid (HX18c.out.below hbn HX18c.out.lt)
        have HX22d := Lib.hid (HX22c.out.below hbn HX22c.out.lt)
        have HX24d := Lib.hid (HX24.out.below hbn HX24.out.lt)
        have HX26 := Lib.hid hx
        have HB9 := Lib.hid (bt HB8.out hbn)
        clear hbn hx HX16c HX18c HX22c HX24
        have l0 : ∀ w', Below W9.heap.size W9 w' → w'.cell? ⟨t26, 0, none⟩ = some (.int .i64 p) := fun w' q => ((HX26.out.below q HX26.out.lt).cell 0).trans rfl
        have l1 : ∀ w', Below W9.heap.size W9 w' → w'.cell? ⟨t26, 1, none⟩ = some (.int .i64 q) := fun w' q => ((HX26.out.below q HX26.out.lt).cell 1).trans rfl
        have m0 : ∀ w', Below W9.heap.size W9 w' → w'.cell? ⟨t16, 0, none⟩ = some (.int .i64 p) := fun w' q => ((HX16d.out.below q HX16d.out.lt).cell 0).trans rfl
        have m1 : ∀ w', Below W9.heap.size W9 w' → w'.cell? ⟨t16, 1, none⟩ = some (.int .i64 q) := fun w' q => ((HX16d.out.below q HX16d.out.lt).cell 1).trans rfl
        have j0 : ∀ w', Below W9.heap.size W9 w' → w'.cell? ⟨t22, 0, none⟩ = some (.int .i64 1) := fun w' q => ((HX22d.out.below q HX22d.out.lt).cell 0).trans rfl
        have j1 : ∀ w', Below W9.heap.size W9 w' → w'.cell? ⟨t22, 1, none⟩ = some (.int .i64 num) := fun w' q => ((HX22d.out.below q HX22d.out.lt).cell 1).trans rfl
        have q1 := run_neq23
        refine wp_region_held (S := fun w' => Below W9.heap.size W9 w') (by kernel_rfl) ?_
        have hS : Below W9.heap.size W9 ({ W9 with drawn := W9.drawn + 1 } : World) := (Below.refl _ _).drew
        generalize ({ W9 with drawn := W9.drawn + 1 } : World) = V0 at *
        refine hpu 0 (o := ({ dst := some 96, op := Op.move (Operand.tmp 21), type := 3, pos := "law.go:232", after := #[], guard := none } : Oper)) (.int .i64 0) (by kernel_rfl) rfl rfl (fun _ _ _ h => h) rfl (by intro w hSw; go_simp) hS ?_
        simp only [ap]
        refine hpu 1 (o := ({ dst := some 97, op := Op.move (Operand.tmp 17), type := 3, pos := "law.go:232", after := #[], guard := none } : Oper)) (.int .i64 0) (by kernel_rfl) rfl rfl (fun _ _ _ h => h) rfl (by intro w hSw; go_simp) hS ?_
        simp only [ap]
        refine hpu 2 (o := ({ dst := some 98, op := Op.binOp BinOp.neq 3 (Operand.tmp 96) (Operand.tmp 97) 3, type := 4, pos := "law.go:232", after := #[{ on := 0, ground := Ground.data }, { on := 1, ground := Ground.data }], guard := none } : Oper)) (.bool false) (by kernel_rfl) rfl rfl (fun _ _ _ h => h) rfl (by intro w hSw; go_simp) hS ?_
        simp only [ap]
        refine hpu 3 (o := ({ dst := some 99, op := Op.move (Operand.tmp 98), type := 4, pos := "law.go:232", after := #[{ on := 2, ground := Ground.data }], guard := none } : Oper)) (.bool false) (by kernel_rfl) rfl rfl (fun _ _ _ h => h) rfl (by intro w hSw; go_simp) hS ?_
        simp only [ap]
        refine hpu 4 (o := ({ dst := some 100, op := Op.load 23 (Operand.tmp 26), type := 23, pos := "law.go:232", after := #[{ on := 3, ground := Ground.guard }], guard := some (3, false) } : Oper)) (.agg #[.int .i64 p, .int .i64 q]) (by kernel_rfl) rfl rfl (fun _ _ _ h => h) rfl (by intro w hSw; go_simp) hS ?_
        simp only [ap]
        refine hpu 5 (o := ({ dst := some 101, op := Op.load 23 (Operand.tmp 16), type := 23, pos := "law.go:232", after := #[{ on := 3, ground := Ground.guard }], guard := some (3, false) } : Oper)) (.agg #[.int .i64 p, .int .i64 q]) (by kernel_rfl) rfl rfl (fun _ _ _ h => h) rfl (by intro w hSw; go_simp) hS ?_
        simp only [ap]
        refine hpu 6 (o := ({ dst := some 102, op := Op.binOp BinOp.neq 23 (Operand.tmp 100) (Operand.tmp 101) 23, type := 4, pos := "law.go:232", after := #[{ on := 4, ground := Ground.data }, { on := 5, ground := Ground.data }, { on := 3, ground := Ground.guard }], guard := some (3, false) } : Oper)) (.bool false) (by kernel_rfl) rfl rfl (fun _ _ _ h => h) rfl (by intro w hSw; go_simp) hS ?_
        simp only [ap]
        refine hpu 7 (o := ({ dst := some 103, op := Op.pick (Operand.tmp 99) (Operand.const (Value.bool true)) (Operand.tmp 102), type := 4, pos := "law.go:232", after := #[{ on := 3, ground := Ground.data }, { on := 6, ground := Ground.data }], guard := none } : Oper)) (.bool false) (by kernel_rfl) rfl rfl (fun _ _ _ h => h) rfl (by intro w hSw; go_simp) hS ?_
        simp only [ap]
        refine hpu 8 (o := ({ dst := some 104, op := Op.move (Operand.tmp 103), type := 4, pos := "law.go:232", after := #[{ on := 7, ground := Ground.data }, { on := 3, ground := Ground.chain }], guard := none } : Oper)) (.bool false) (by kernel_rfl) rfl rfl (fun _ _ _ h => h) rfl (by intro w hSw; go_simp) hS ?_
        simp only [ap]
        refine hpu 9 (o := ({ dst := some 105, op := Op.move (Operand.tmp 27), type := 3, pos := "law.go:232", after := #[{ on := 8, ground := Ground.guard }], guard := some (8, false) } : Oper)) (.int .i64 0) (by kernel_rfl) rfl rfl (fun _ _ _ h => h) rfl (by intro w hSw; go_simp) hS ?_
        simp only [ap]
        refine hpu 10 (o := ({ dst := some 106, op := Op.move (Operand.tmp 17), type := 3, pos := "law.go:232", after := #[{ on := 8, ground := Ground.guard }], guard := some (8, false) } : Oper)) (.int .i64 0) (by kernel_rfl) rfl rfl (fun _ _ _ h => h) rfl (by intro w hSw; go_simp) hS ?_
        simp only [ap]
        refine hpu 11 (o := ({ dst := some 107, op := Op.binOp BinOp.neq 3 (Operand.tmp 105) (Operand.tmp 106) 3, type := 4, pos := "law.go:232", after := #[{ on := 9, ground := Ground.data }, { on := 10, ground := Ground.data }, { on := 8, ground := Ground.guard }], guard := some (8, false) } : Oper)) (.bool false) (by kernel_rfl) rfl rfl (fun _ _ _ h => h) rfl (by intro w hSw; go_simp) hS ?_
        simp only [ap]
        refine hpu 12 (o := ({ dst := some 108, op := Op.pick (Operand.tmp 104) (Operand.const (Value.bool true)) (Operand.tmp 107), type := 4, pos := "law.go:232", after := #[{ on := 8, ground := Ground.data }, { on := 11, ground := Ground.data }], guard := none } : Oper)) (.bool false) (by kernel_rfl) rfl rfl (fun _ _ _ h => h) rfl (by intro w hSw; go_simp) hS ?_
        simp only [ap]
        refine hpu 13 (o := ({ dst := some 109, op := Op.move (Operand.tmp 108), type := 4, pos := "law.go:232", after := #[{ on := 12, ground := Ground.data }, { on := 8, ground := Ground.chain }], guard := none } : Oper)) (.bool false) (by kernel_rfl) rfl rfl (fun _ _ _ h => h) rfl (by intro w hSw; go_simp) hS ?_
        simp only [ap]
        refine hpu 14 (o := ({ dst := some 110, op := Op.move (Operand.tmp 17), type := 3, pos := "law.go:232", after := #[{ on := 13, ground := Ground.guard }], guard := some (13, false) } : Oper)) (.int .i64 0) (by kernel_rfl) rfl rfl (fun _ _ _ h => h) rfl (by intro w hSw; go_simp) hS ?_
        simp only [ap]
        refine hpu 15 (o := ({ dst := some 111, op := Op.binOp BinOp.eql 3 (Operand.tmp 110) (Operand.const (Value.int IntKind.i64 0)) 3, type := 4, pos := "law.go:232", after := #[{ on := 14, ground := Ground.data }, { on := 13, ground := Ground.guard }], guard := some (13, false) } : Oper)) (.bool true) (by kernel_rfl) rfl rfl (fun _ _ _ h => h) rfl (by intro w hSw; go_simp) hS ?_
        simp only [ap]
        refine hpu 16 (o := ({ dst := some 112, op := Op.move (Operand.tmp 111), type := 4, pos := "law.go:232", after := #[{ on := 15, ground := Ground.data }, { on := 13, ground := Ground.chain }, { on := 13, ground := Ground.guard }], guard := some (13, false) } : Oper)) (.bool true) (by kernel_rfl) rfl rfl (fun _ _ _ h => h) rfl (by intro w hSw; go_simp) hS ?_
        simp only [ap]
        refine hpu 17 (o := ({ dst := some 113, op := Op.load 23 (Operand.tmp 22), type := 23, pos := "law.go:232", after := #[{ on := 16, ground := Ground.guard }], guard := some (16, true) } : Oper)) (.agg #[.int .i64 1, .int .i64 num]) (by kernel_rfl) rfl rfl (fun _ _ _ h => h) rfl (by intro w hSw; go_simp) hS ?_
        simp only [ap]
        refine hpu 18 (o := ({ dst := some 114, op := Op.move (Operand.tmp 3), type := 3, pos := "law.go:232", after := #[{ on := 16, ground := Ground.guard }], guard := some (16, true) } : Oper)) (.int .i64 num) (by kernel_rfl) rfl rfl (fun _ _ _ h => h) rfl (by intro w hSw; go_simp) hS ?_
        simp only [ap]
        refine h_call 19 ({ dst := some 115, op := Op.call { callee := Callee.value (Operand.func 23), args := #[Operand.tmp 114], argTypes := #[3] }, type := 23, pos := "law.go:232", after := #[{ on := 18, ground := Ground.data }, { on := 16, ground := Ground.chain }, { on := 16, ground := Ground.guard }], guard := some (16, true) } : Oper) (fun v w1 => v = .agg #[.int .i64 1, .int .i64 num] ∧ Below V0.heap.size V0 w1) own23 rfl rfl rfl (by kernel_rfl) rfl (args := #[.int .i64 num]) rfl (((HN23.out _ _).mono fun e w1 q => ⟨_, q.1, rfl, q.2⟩)) ?_
        rintro v W10 ⟨rfl, hb5⟩
        have hS := bt hS hb5
        refine ⟨hS, ?_⟩
        simp only [ap]
        refine hpu 20 (o := ({ dst := some 116, op := Op.binOp BinOp.neq 23 (Operand.tmp 113) (Operand.tmp 115) 23, type := 4, pos := "law.go:232", after := #[{ on := 17, ground := Ground.data }, { on := 19, ground := Ground.data }, { on := 16, ground := Ground.guard }], guard := some (16, true) } : Oper)) (.bool false) (by kernel_rfl) rfl rfl (fun _ _ _ h => h) rfl (by intro w hSw; go_simp) hS ?_
        simp only [ap]
        refine hpu 21 (o := ({ dst := some 117, op := Op.move (Operand.tmp 116), type := 4, pos := "law.go:232", after := #[{ on := 20, ground := Ground.data }, { on := 19, ground := Ground.chain }, { on := 16, ground := Ground.guard }], guard := some (16, true) } : Oper)) (.bool false) (by kernel_rfl) rfl rfl (fun _ _ _ h => h) rfl (by intro w hSw; go_simp) hS ?_
        simp only [ap]
        refine hpu 22 (o := ({ dst := some 118, op := Op.move (Operand.tmp 23), type := 3, pos := "law.go:232", after := #[{ on := 21, ground := Ground.guard }], guard := some (21, false) } : Oper)) (.int .i64 0) (by kernel_rfl) rfl rfl (fun _ _ _ h => h) rfl (by intro w hSw; go_simp) hS ?_
        simp only [ap]
        refine hpu 23 (o := ({ dst := some 119, op := Op.binOp BinOp.neq 3 (Operand.tmp 118) (Operand.const (Value.int IntKind.i64 0)) 3, type := 4, pos := "law.go:232", after := #[{ on := 22, ground := Ground.data }, { on := 21, ground := Ground.guard }], guard := some (21, false) } : Oper)) (.bool false) (by kernel_rfl) rfl rfl (fun _ _ _ h => h) rfl (by intro w hSw; go_simp) hS ?_
        simp only [ap]
        refine hpu 24 (o := ({ dst := some 120, op := Op.pick (Operand.tmp 117) (Operand.const (Value.bool true)) (Operand.tmp 119), type := 4, pos := "law.go:232", after := #[{ on := 21, ground := Ground.data }, { on := 23, ground := Ground.data }, { on := 16, ground := Ground.guard }], guard := some (16, true) } : Oper)) (.bool false) (by kernel_rfl) rfl rfl (fun _ _ _ h => h) rfl (by intro w hSw; go_simp) hS ?_
        simp only [ap]
        refine hpu 25 (o := ({ dst := some 121, op := Op.pick (Operand.tmp 112) (Operand.tmp 120) (Operand.const (Value.bool false)), type := 4, pos := "law.go:232", after := #[{ on := 16, ground := Ground.data }, { on := 24, ground := Ground.data }, { on := 13, ground := Ground.guard }], guard := some (13, false) } : Oper)) (.bool false) (by kernel_rfl) rfl rfl (fun _ _ _ h => h) rfl (by intro w hSw; go_simp) hS ?_
        simp only [ap]
        refine hpu 26 (o := ({ dst := some 122, op := Op.pick (Operand.tmp 109) (Operand.const (Value.bool true)) (Operand.tmp 121), type := 4, pos := "law.go:232", after := #[{ on := 13, ground := Ground.data }, { on := 25, ground := Ground.data }], guard := none } : Oper)) (.bool false) (by kernel_rfl) rfl rfl (fun _ _ _ h => h) rfl (by intro w hSw; go_simp) hS ?_
        simp only [ap]
        refine hpu 27 (o := ({ dst := some 123, op := Op.move (Operand.tmp 122), type := 4, pos := "law.go:232", after := #[{ on := 26, ground := Ground.data }, { on := 21, ground := Ground.chain }], guard := none } : Oper)) (.bool false) (by kernel_rfl) rfl rfl (fun _ _ _ h => h) rfl (by intro w hSw; go_simp) hS ?_
        simp only [ap]
        refine hpu 28 (o := ({ dst := some 124, op := Op.move (Operand.tmp 17), type := 3, pos := "law.go:232", after := #[{ on := 27, ground := Ground.guard }], guard := some (27, false) } : Oper)) (.int .i64 0) (by kernel_rfl) rfl rfl (fun _ _ _ h => h) rfl (by intro w hSw; go_simp) hS ?_
        simp only [ap]
        refine hpu 29 (o := ({ dst := some 125, op := Op.binOp BinOp.neq 3 (Operand.tmp 124) (Operand.const (Value.int IntKind.i64 0)) 3, type := 4, pos := "law.go:232", after := #[{ on := 28, ground := Ground.data }, { on := 27, ground := Ground.guard }], guard := some (27, false) } : Oper)) (.bool false) (by kernel_rfl) rfl rfl (fun _ _ _ h => h) rfl (by intro w hSw; go_simp) hS ?_
        simp only [ap]
        refine hpu 30 (o := ({ dst := some 126, op := Op.move (Operand.tmp 125), type := 4, pos := "law.go:232", after := #[{ on := 29, ground := Ground.data }, { on := 27, ground := Ground.chain }, { on := 27, ground := Ground.guard }], guard := some (27, false) } : Oper)) (.bool false) (by kernel_rfl) rfl rfl (fun _ _ _ h => h) rfl (by intro w hSw; go_simp) hS ?_
        simp only [ap]
        refine h_off 31 (by kernel_rfl) rfl rfl (fun _ _ _ h => h) rfl hS ?_
        simp only [ap]
        refine h_off 32 (by kernel_rfl) rfl rfl (fun _ _ _ h => h) rfl hS ?_
        simp only [ap]
        refine h_off 33 (by kernel_rfl) rfl rfl (fun _ _ _ h => h) rfl hS ?_
        simp only [ap]
        refine hpu 34 (o := ({ dst := some 130, op := Op.pick (Operand.tmp 126) (Operand.tmp 129) (Operand.const (Value.bool false)), type := 4, pos := "law.go:232", after := #[{ on := 30, ground := Ground.data }, { on := 33, ground := Ground.data }, { on := 27, ground := Ground.guard }], guard := some (27, false) } : Oper)) (.bool false) (by kernel_rfl) rfl rfl (fun _ _ _ h => h) rfl (by intro w hSw; go_simp) hS ?_
        simp only [ap]
        refine hpu 35 (o := ({ dst := some 131, op := Op.pick (Operand.tmp 123) (Operand.const (Value.bool true)) (Operand.tmp 130), type := 4, pos := "law.go:232", after := #[{ on := 27, ground := Ground.data }, { on := 34, ground := Ground.data }], guard := none } : Oper)) (.bool false) (by kernel_rfl) rfl rfl (fun _ _ _ h => h) rfl (by intro w hSw; go_simp) hS ?_
        simp only [ap]
        refine wpAnyH_done (by kernel_rfl) ?_ _
        have HCe := Lib.hid (HC9.out.below hS)
        have He := Lib.hid (H9.out.below hS)
        have HQe := Lib.hid (HQ9.out.below hS)
        have HX18e := Lib.hid (HX18d.out.below hS HX18d.out.lt)
        have HX24e := Lib.hid (HX24d.out.below hS HX24d.out.lt)
        have HBe := Lib.hid (bt HB0.out (bt HB9.out hS))
        clear hS q1 l0 l1 m0 m1 j0 j1 HX16d HX18d HX22d HX24d HX26 hb5
        have HK1 := Lib.hid (cells_any HCe.out)
        have HK2 := Lib.hid (cells_any He.out)
        rw [HV.out.2.2.2.2.1.1] at HK1
        obtain ⟨z, hz⟩ : ∃ z, cellsL L = z := ⟨_, rfl⟩
        rw [hz] at HK1 HK2
        clear hz
        have hzz : (z == z) = true := by simp
        have hff : (f0 == f0) = true := by simp
        have q1 := run_eql23
        have y0 := ((HQe.out.1).cell 0).trans rfl
        have y1 := ((HQe.out.1).cell 1).trans rfl
        have y2 := ((HQe.out.2.1).cell 0).trans rfl
        have y3 := ((HQe.out.2.1).cell 1).trans rfl
        have y4 := ((HQe.out.2.2.1).cell 0).trans rfl
        have y5 := ((HQe.out.2.2.1).cell 1).trans rfl
        have y6 := ((HQe.out.2.2.2).cell 0).trans rfl
        have y7 := ((HQe.out.2.2.2).cell 1).trans rfl
        have u0 := ((HX18e.out).cell 0).trans rfl
        have u1 := ((HX18e.out).cell 1).trans rfl
        have u2 := ((HX24e.out).cell 0).trans rfl
        have u3 := ((HX24e.out).cell 1).trans rfl
        have hyy : (p2 == p2 && q2 == q2) = true := by simp
        by_cases hs : (ak = bk ∧ an = bn) ∧ (ik = kk ∧ iN = kn)
        · have r1 : (ak == bk && an == bn) = true := by simp [hs.1.1, hs.1.2]
          have r2 : (ik == kk && iN == kn) = true := by simp [hs.2.1, hs.2.2]
          clear hs
          go_wp2_with (first | (go_at_call 16; refine HK1.out.mono ?_; rintro e w' ⟨rfl, rfl⟩) | (go_at_call 16; refine HK2.out.mono ?_; rintro e w' ⟨rfl, rfl⟩))
          go_ret
          exact ⟨rfl, HBe.out⟩
        · have hpq := HV.out.2.2.2.2.1.2 hs
          obtain ⟨rfl, rfl⟩ := hpq
          by_cases hs1 : ak = bk ∧ an = bn
          · have r1 : (ak == bk && an == bn) = true := by simp [hs1.1, hs1.2]
            have r2 : (ik == kk && iN == kn) = false := by
              rw [Bool.and_eq_false_iff]
              by_cases h : ik = kk
              · exact .inr (beq_eq_false_iff_ne.2 fun q => hs ⟨hs1, h, q⟩)
              · exact .inl (beq_eq_false_iff_ne.2 h)
            clear hs hs1
            go_wp2_with (first | (go_at_call 16; refine HK1.out.mono ?_; rintro e w' ⟨rfl, rfl⟩) | (go_at_call 16; refine HK2.out.mono ?_; rintro e w' ⟨rfl, rfl⟩))
            go_ret
            exact ⟨rfl, HBe.out⟩
          · have r1 : (ak == bk && an == bn) = false := by
              rw [Bool.and_eq_false_iff]
              by_cases h : ak = bk
              · exact .inr (beq_eq_false_iff_ne.2 fun q => hs1 ⟨h, q⟩)
              · exact .inl (beq_eq_false_iff_ne.2 h)
            clear hs hs1
            go_wp2_with (first | (go_at_call 16; refine HK1.out.mono ?_; rintro e w' ⟨rfl, rfl⟩) | (go_at_call 16; refine HK2.out.mono ?_; rintro e w' ⟨rfl, rfl⟩))
            go_ret
            exact ⟨rfl, HBe.out⟩
      · obtain ⟨wr, hw⟩ : ∃ x, wrongH L ak an ik iN = x := ⟨_, rfl⟩
        have HWR := Lib.hid (show wr ≠ 0 from fun q => hwr (hw.trans q))
        replace hwr := hw
        clear hw
        obtain ⟨⟨⟨p, q⟩, e0⟩, hG1⟩ : ∃ R, getV L ak an ik iN = R := ⟨_, rfl⟩
        have he := get_err L ak an ik iN
        rw [hG1, hwr] at he
        dsimp only at he
        replace he := he.symm
        subst he
        obtain ⟨⟨⟨p2, q2⟩, f0⟩, hG2⟩ : ∃ R, getV L bk bn kk kn = R := ⟨_, rfl⟩
        obtain ⟨⟨⟨p3, q3⟩, f3⟩, hG3⟩ : ∃ R, getV (setH L ak an ik iN 1 num) bk bn kk kn = R := ⟨_, rfl⟩
        have hf := get_err (setH L ak an ik iN 1 num) bk bn kk kn
        rw [wrong_set, ← get_err, hG2, hG3] at hf
        dsimp only at hf
        replace hf := hf.symm
        subst hf
        have hA1 := hG1
        rw [← set_no (L := L) (k := ak) (n := an) (j := ik) (i := iN) (by rw [hwr]; exact HWR.out) 1 num] at hA1
        have haway : ¬ ((ak = bk ∧ an = bn) ∧ (ik = kk ∧ iN = kn)) → p3 = p2 ∧ q3 = q2 := fun _ => by
          have h := hG3
          rw [set_no (by rw [hwr]; exact HWR.out), hG2] at h
          injection h with h _
          injection h with h1 h2
          exact ⟨h1.symm, h2.symm⟩
        have hcells := set_cells L ak an ik iN 1 num
        obtain ⟨M, hM⟩ : ∃ M, setH L ak an ik iN 1 num = M := ⟨_, rfl⟩
        rw [hM] at hA1 hG3 hcells
        have HV := Lib.hid (And.intro hG1 (And.intro hG2 (And.intro hA1 (And.intro hG3 (And.intro (And.intro hcells haway) (And.intro hwr hM))))))
        clear hG1 hG2 hA1 hG3 hcells haway hwr hM
        have HG := Lib.hid (get_any H1.out ak an ik iN)
        rw [show getV L ak an ik iN = ((p, q), wr) from HV.out.1] at HG
        dsimp only at HG
        have y0 := ((HQ1.out.1).cell 0).trans rfl
        have y1 := ((HQ1.out.1).cell 1).trans rfl
        have y2 := ((HQ1.out.2.1).cell 0).trans rfl
        have y3 := ((HQ1.out.2.1).cell 1).trans rfl
        go_wp2_with (go_at_call 24; refine HG.out.mono ?_)
        rintro e w3 ⟨rfl, hb3⟩
        go_upto_region 10 with (fail)
        have hbn : Below W1.heap.size W1 (w3.alloc (.cells #[.int .i64 p, .int .i64 q] 23)) := hb3.alloc hb3.size _
        have hx := Bx.new w3 23 [.int .i64 p, .int .i64 q]
        obtain ⟨W2, hW⟩ : ∃ W2, w3.alloc (.cells #[.int .i64 p, .int .i64 q] 23) = W2 := ⟨_, rfl⟩
        rw [hW] at hbn ⊢
        rw [show w3.alloc (.cells [Value.int .i64 p, .int .i64 q].toArray 23) = W2 from hW] at hx
        clear hW hb3 y0 y1 y2 y3 HG
        generalize w3.heap.size = t16 at *
        clear w3
        have H2 := Lib.hid (H1.out.below hbn)
        have HQ2 := Lib.hid (HQ1.out.below hbn)
        have HX16 := Lib.hid hx
        have HB2 := Lib.hid (bt HB1.out hbn)
        clear hbn hx
        have HG := Lib.hid (get_any H2.out bk bn kk kn)
        rw [show getV L bk bn kk kn = ((p2, q2), f0) from HV.out.2.1] at HG
        dsimp only at HG
        have y0 := ((HQ2.out.2.2.1).cell 0).trans rfl
        have y1 := ((HQ2.out.2.2.1).cell 1).trans rfl
        have y2 := ((HQ2.out.2.2.2).cell 0).trans rfl
        have y3 := ((HQ2.out.2.2.2).cell 1).trans rfl
        go_wp2_with (go_at_call 24; refine HG.out.mono ?_)
        rintro e w3 ⟨rfl, hb3⟩
        go_upto_region 11 with (fail)
        have hbn : Below W2.heap.size W2 (w3.alloc (.cells #[.int .i64 p2, .int .i64 q2] 23)) := hb3.alloc hb3.size _
        have hx := Bx.new w3 23 [.int .i64 p2, .int .i64 q2]
        obtain ⟨W3, hW⟩ : ∃ W2, w3.alloc (.cells #[.int .i64 p2, .int .i64 q2] 23) = W2 := ⟨_, rfl⟩
        rw [hW] at hbn ⊢
        rw [show w3.alloc (.cells [Value.int .i64 p2, .int .i64 q2].toArray 23) = W3 from hW] at hx
        clear hW hb3 y0 y1 y2 y3 HG
        generalize w3.heap.size = t18 at *
        clear w3
        have H3 := Lib.hid (H2.out.below hbn)
        have HQ3 := Lib.hid (HQ2.out.below hbn)
        have HX16' := Lib.hid (HX16.out.below hbn HX16.out.lt)
        have HX18 := Lib.hid hx
        have HB3 := Lib.hid (bt HB2.out hbn)
        clear hbn hx HX16
        have HC22 := Lib.hid (copy_any H3.out)
        go_wp2_with (go_at_call 22; refine HC22.out.mono ?_)
        rintro e W4 ⟨g2, v2, vs2, rfl, hc, hb4⟩
        go_upto_region 12 with (fail)
        have HC4 := Lib.hid hc
        have HBc := Lib.hid hb4
        have HQ4 := Lib.hid (HQ3.out.below hb4)
        clear hc hb4 HC22
        have y0 : ∀ w', Below W3.heap.size W3 w' → w'.cell? ⟨w.heap.size, 0, none⟩ = some (.int .i64 ak) := fun w' q => (((HQ3.out.below q).1).cell 0).trans rfl
        have y1 : ∀ w', Below W3.heap.size W3 w' → w'.cell? ⟨w.heap.size, 1, none⟩ = some (.int .i64 an) := fun w' q => (((HQ3.out.below q).1).cell 1).trans rfl
        have y2 : ∀ w', Below W3.heap.size W3 w' → w'.cell? ⟨w.heap.size + 1, 0, none⟩ = some (.int .i64 ik) := fun w' q => (((HQ3.out.below q).2.1).cell 0).trans rfl
        have y3 : ∀ w', Below W3.heap.size W3 w' → w'.cell? ⟨w.heap.size + 1, 1, none⟩ = some (.int .i64 iN) := fun w' q => (((HQ3.out.below q).2.1).cell 1).trans rfl
        have HST := Lib.hid (fun W (q : Below W4.heap.size W4 W) => set_any (HC4.out.below q) ak an ik iN 1 num)
        rw [HV.out.2.2.2.2.2.2, HV.out.2.2.2.2.2.1] at HST
        refine wp_region_held (S := fun w' => Below W3.heap.size W3 w') (by kernel_rfl) ?_
        have hS : Below W3.heap.size W3 ({ W4 with drawn := W4.drawn + 1 } : World) := HBc.out.drew
        have hq : Below W4.heap.size W4 ({ W4 with drawn := W4.drawn + 1 } : World) := (Below.refl _ _).drew
        generalize ({ W4 with drawn := W4.drawn + 1 } : World) = V0 at *
        refine hpu 0 (o := ({ dst := some 69, op := Op.move (Operand.tmp 20), type := 38, pos := "law.go:228", after := #[], guard := none } : Oper)) (.pointer (some ⟨g2, 0, none⟩)) (by kernel_rfl) rfl rfl (fun _ _ _ h => h) rfl (by intro w hSw; go_simp) hS ?_
        simp only [ap]
        refine hpu 1 (o := ({ dst := some 70, op := Op.load 23 (Operand.tmp 7), type := 23, pos := "law.go:228", after := #[], guard := none } : Oper)) (.agg #[.int .i64 ak, .int .i64 an]) (by kernel_rfl) rfl rfl (fun _ _ _ h => h) rfl (by intro w hSw; go_simp) hS ?_
        simp only [ap]
        refine hpu 2 (o := ({ dst := some 71, op := Op.load 23 (Operand.tmp 8), type := 23, pos := "law.go:228", after := #[], guard := none } : Oper)) (.agg #[.int .i64 ik, .int .i64 iN]) (by kernel_rfl) rfl rfl (fun _ _ _ h => h) rfl (by intro w hSw; go_simp) hS ?_
        simp only [ap]
        refine hpu 3 (o := ({ dst := some 72, op := Op.move (Operand.tmp 3), type := 3, pos := "law.go:228", after := #[], guard := none } : Oper)) (.int .i64 num) (by kernel_rfl) rfl rfl (fun _ _ _ h => h) rfl (by intro w hSw; go_simp) hS ?_
        simp only [ap]
        refine h_call 4 ({ dst := some 73, op := Op.call { callee := Callee.value (Operand.func 23), args := #[Operand.tmp 72], argTypes := #[3] }, type := 23, pos := "law.go:228", after := #[{ on := 3, ground := Ground.data }], guard := none } : Oper) (fun v w1 => v = .agg #[.int .i64 1, .int .i64 num] ∧ Below V0.heap.size V0 w1) own23 rfl rfl rfl (by kernel_rfl) rfl (args := #[.int .i64 num]) rfl (((HN23.out _ _).mono fun e w1 q => ⟨_, q.1, rfl, q.2⟩)) ?_
        rintro v W5 ⟨rfl, hb5⟩
        have hS := bt hS hb5
        have hq := bt hq hb5
        refine ⟨hS, ?_⟩
        simp only [ap]
        refine h_call 5 ({ dst := some 74, op := Op.call { callee := Callee.value (Operand.func 25), args := #[Operand.tmp 69, Operand.tmp 70, Operand.tmp 71, Operand.tmp 73], argTypes := #[38, 23, 23, 23] }, type := 3, pos := "law.go:228", after := #[{ on := 0, ground := Ground.data }, { on := 1, ground := Ground.data }, { on := 2, ground := Ground.data }, { on := 4, ground := Ground.data }, { on := 4, ground := Ground.chain }], guard := none } : Oper) (fun v w1 => v = .int .i64 wr ∧ Hp 46 C46 w1 W3.heap.size g2 v2 vs2 M ∧ Fr (Fp g2 v2 vs2) W5 w1) own25 rfl rfl rfl (by kernel_rfl) rfl (args := #[.pointer (some ⟨g2, 0, none⟩), .agg #[.int .i64 ak, .int .i64 an], .agg #[.int .i64 ik, .int .i64 iN], .agg #[.int .i64 1, .int .i64 num]]) rfl (((HST.out _ hq).mono fun e w1 q => ⟨_, q.1, rfl, q.2⟩)) ?_
        rintro v W6 ⟨rfl, hc6, hF6⟩
        have hS := hS.trans (hF6.to_below hS.size (fun x hx => HC4.out.foot hx))
        refine ⟨hS, ?_⟩
        simp only [ap]
        refine hpu 6 (o := ({ dst := some 21, op := Op.assign (Operand.tmp 74), type := 3, pos := "law.go:228", after := #[{ on := 5, ground := Ground.data }, { on := 5, ground := Ground.chain }, { on := 0, ground := Ground.phase }, { on := 1, ground := Ground.phase }, { on := 2, ground := Ground.phase }, { on := 3, ground := Ground.phase }, { on := 4, ground := Ground.phase }, { on := 5, ground := Ground.phase }], guard := none } : Oper)) (.int .i64 wr) (by kernel_rfl) rfl rfl (fun _ _ _ h => h) rfl (by intro w hSw; go_simp) hS ?_
        simp only [ap]
        refine wpAnyH_done (by kernel_rfl) ?_ _
        have HC6 := Lib.hid hc6
        have H6 := Lib.hid (H3.out.below hS)
        have HQ6 := Lib.hid (HQ3.out.below hS)
        have HX16a := Lib.hid (HX16'.out.below hS HX16'.out.lt)
        have HX18a := Lib.hid (HX18.out.below hS HX18.out.lt)
        have HB6 := Lib.hid (bt HB3.out hS)
        clear hc6 hF6 hS hq hb5 y0 y1 y2 y3 HST HX16' HX18 HQ4 HC4 HBc
        have HG := Lib.hid (get_any HC6.out ak an ik iN)
        rw [show getV M ak an ik iN = ((p, q), wr) from HV.out.2.2.1] at HG
        dsimp only at HG
        have y0 := ((HQ6.out.1).cell 0).trans rfl
        have y1 := ((HQ6.out.1).cell 1).trans rfl
        have y2 := ((HQ6.out.2.1).cell 0).trans rfl
        have y3 := ((HQ6.out.2.1).cell 1).trans rfl
        go_wp2_with (go_at_call 24; refine HG.out.mono ?_)
        rintro e w3 ⟨rfl, hb3⟩
        go_upto_region 14 with (fail)
        have hbn : Below W6.heap.size W6 (w3.alloc (.cells #[.int .i64 p, .int .i64 q] 23)) := hb3.alloc hb3.size _
        have hx := Bx.new w3 23 [.int .i64 p, .int .i64 q]
        obtain ⟨W7, hW⟩ : ∃ W2, w3.alloc (.cells #[.int .i64 p, .int .i64 q] 23) = W2 := ⟨_, rfl⟩
        rw [hW] at hbn ⊢
        rw [show w3.alloc (.cells [Value.int .i64 p, .int .i64 q].toArray 23) = W7 from hW] at hx
        clear hW hb3 y0 y1 y2 y3 HG
        generalize w3.heap.size = t22 at *
        clear w3
        have HC7 := Lib.hid (HC6.out.below hbn)
        have H7 := Lib.hid (H6.out.below hbn)
        have HQ7 := Lib.hid (HQ6.out.below hbn)
        have HX16b := Lib.hid (HX16a.out.below hbn HX16a.out.lt)
        have HX18b := Lib.hid (HX18a.out.below hbn HX18a.out.lt)
        have HX22 := Lib.hid hx
        have HB7 := Lib.hid (bt HB6.out hbn)
        clear hbn hx HX16a HX18a
        have HG := Lib.hid (get_any HC7.out bk bn kk kn)
        rw [show getV M bk bn kk kn = ((p3, q3), f0) from HV.out.2.2.2.1] at HG
        dsimp only at HG
        have y0 := ((HQ7.out.2.2.1).cell 0).trans rfl
        have y1 := ((HQ7.out.2.2.1).cell 1).trans rfl
        have y2 := ((HQ7.out.2.2.2).cell 0).trans rfl
        have y3 := ((HQ7.out.2.2.2).cell 1).trans rfl
        go_wp2_with (go_at_call 24; refine HG.out.mono ?_)
        rintro e w3 ⟨rfl, hb3⟩
        go_upto_region 15 with (fail)
        have hbn : Below W7.heap.size W7 (w3.alloc (.cells #[.int .i64 p3, .int .i64 q3] 23)) := hb3.alloc hb3.size _
        have hx := Bx.new w3 23 [.int .i64 p3, .int .i64 q3]
        obtain ⟨W8, hW⟩ : ∃ W2, w3.alloc (.cells #[.int .i64 p3, .int .i64 q3] 23) = W2 := ⟨_, rfl⟩
        rw [hW] at hbn ⊢
        rw [show w3.alloc (.cells [Value.int .i64 p3, .int .i64 q3].toArray 23) = W8 from hW] at hx
        clear hW hb3 y0 y1 y2 y3 HG
        generalize w3.heap.size = t24 at *
        clear w3
        have HC8 := Lib.hid (HC7.out.below hbn)
        have H8 := Lib.hid (H7.out.below hbn)
        have HQ8 := Lib.hid (HQ7.out.below hbn)
        have HX16c := Lib.hid (HX16b.out.below hbn HX16b.out.lt)
        have HX18c := Lib.hid (HX18b.out.below hbn HX18b.out.lt)
        have HX22c := Lib.hid (HX22.out.below hbn HX22.out.lt)
        have HX24 := Lib.hid hx
        have HB8 := Lib.hid (bt HB7.out hbn)
        clear hbn hx HX16b HX18b HX22
        have HG := Lib.hid (get_any H8.out ak an ik iN)
        rw [show getV L ak an ik iN = ((p, q), wr) from HV.out.1] at HG
        dsimp only at HG
        have y0 := ((HQ8.out.1).cell 0).trans rfl
        have y1 := ((HQ8.out.1).cell 1).trans rfl
        have y2 := ((HQ8.out.2.1).cell 0).trans rfl
        have y3 := ((HQ8.out.2.1).cell 1).trans rfl
        go_wp2_with (go_at_call 24; refine HG.out.mono ?_)
        rintro e w3 ⟨rfl, hb3⟩
        go_upto_region 16 with (fail)
        have hbn : Below W8.heap.size W8 (w3.alloc (.cells #[.int .i64 p, .int .i64 q] 23)) := hb3.alloc hb3.size _
        have hx := Bx.new w3 23 [.int .i64 p, .int .i64 q]
        obtain ⟨W9, hW⟩ : ∃ W2, w3.alloc (.cells #[.int .i64 p, .int .i64 q] 23) = W2 := ⟨_, rfl⟩
        rw [hW] at hbn ⊢
        rw [show w3.alloc (.cells [Value.int .i64 p, .int .i64 q].toArray 23) = W9 from hW] at hx
        clear hW hb3 y0 y1 y2 y3 HG
        generalize w3.heap.size = t26 at *
        clear w3
        have HC9 := Lib.hid (HC8.out.below hbn)
        have H9 := Lib.hid (H8.out.below hbn)
        have HQ9 := Lib.hid (HQ8.out.below hbn)
        have HX16d := Lib.hid (HX16c.out.below hbn HX16c.out.lt)
        have HX18d := Lib.hid (HX18c.out.below hbn HX18c.out.lt)
        have HX22d := Lib.hid (HX22c.out.below hbn HX22c.out.lt)
        have HX24d := Lib.hid (HX24.out.below hbn HX24.out.lt)
        have HX26 := Lib.hid hx
        have HB9 := Lib.hid (bt HB8.out hbn)
        clear hbn hx HX16c HX18c HX22c HX24
        have l0 : ∀ w', Below W9.heap.size W9 w' → w'.cell? ⟨t26, 0, none⟩ = some (.int .i64 p) := fun w' q => ((HX26.out.below q HX26.out.lt).cell 0).trans rfl
        have l1 : ∀ w', Below W9.heap.size W9 w' → w'.cell? ⟨t26, 1, none⟩ = some (.int .i64 q) := fun w' q => ((HX26.out.below q HX26.out.lt).cell 1).trans rfl
        have m0 : ∀ w', Below W9.heap.size W9 w' → w'.cell? ⟨t16, 0, none⟩ = some (.int .i64 p) := fun w' q => ((HX16d.out.below q HX16d.out.lt).cell 0).trans rfl
        have m1 : ∀ w', Below W9.heap.size W9 w' → w'.cell? ⟨t16, 1, none⟩ = some (.int .i64 q) := fun w' q => ((HX16d.out.below q HX16d.out.lt).cell 1).trans rfl
        have j0 : ∀ w', Below W9.heap.size W9 w' → w'.cell? ⟨t22, 0, none⟩ = some (.int .i64 p) := fun w' q => ((HX22d.out.below q HX22d.out.lt).cell 0).trans rfl
        have j1 : ∀ w', Below W9.heap.size W9 w' → w'.cell? ⟨t22, 1, none⟩ = some (.int .i64 q) := fun w' q => ((HX22d.out.below q HX22d.out.lt).cell 1).trans rfl
        have hne1 : (wr == 0) = false := by simpa using HWR.out
        have hne2 : (wr != 0) = true := by simpa using HWR.out
        have q1 := run_neq23
        refine wp_region_held (S := fun w' => Below W9.heap.size W9 w') (by kernel_rfl) ?_
        have hS : Below W9.heap.size W9 ({ W9 with drawn := W9.drawn + 1 } : World) := (Below.refl _ _).drew
        generalize ({ W9 with drawn := W9.drawn + 1 } : World) = V0 at *
        refine hpu 0 (o := ({ dst := some 96, op := Op.move (Operand.tmp 21), type := 3, pos := "law.go:232", after := #[], guard := none } : Oper)) (.int .i64 wr) (by kernel_rfl) rfl rfl (fun _ _ _ h => h) rfl (by intro w hSw; go_simp) hS ?_
        simp only [ap]
        refine hpu 1 (o := ({ dst := some 97, op := Op.move (Operand.tmp 17), type := 3, pos := "law.go:232", after := #[], guard := none } : Oper)) (.int .i64 wr) (by kernel_rfl) rfl rfl (fun _ _ _ h => h) rfl (by intro w hSw; go_simp) hS ?_
        simp only [ap]
        refine hpu 2 (o := ({ dst := some 98, op := Op.binOp BinOp.neq 3 (Operand.tmp 96) (Operand.tmp 97) 3, type := 4, pos := "law.go:232", after := #[{ on := 0, ground := Ground.data }, { on := 1, ground := Ground.data }], guard := none } : Oper)) (.bool false) (by kernel_rfl) rfl rfl (fun _ _ _ h => h) rfl (by intro w hSw; go_simp) hS ?_
        simp only [ap]
        refine hpu 3 (o := ({ dst := some 99, op := Op.move (Operand.tmp 98), type := 4, pos := "law.go:232", after := #[{ on := 2, ground := Ground.data }], guard := none } : Oper)) (.bool false) (by kernel_rfl) rfl rfl (fun _ _ _ h => h) rfl (by intro w hSw; go_simp) hS ?_
        simp only [ap]
        refine hpu 4 (o := ({ dst := some 100, op := Op.load 23 (Operand.tmp 26), type := 23, pos := "law.go:232", after := #[{ on := 3, ground := Ground.guard }], guard := some (3, false) } : Oper)) (.agg #[.int .i64 p, .int .i64 q]) (by kernel_rfl) rfl rfl (fun _ _ _ h => h) rfl (by intro w hSw; go_simp) hS ?_
        simp only [ap]
        refine hpu 5 (o := ({ dst := some 101, op := Op.load 23 (Operand.tmp 16), type := 23, pos := "law.go:232", after := #[{ on := 3, ground := Ground.guard }], guard := some (3, false) } : Oper)) (.agg #[.int .i64 p, .int .i64 q]) (by kernel_rfl) rfl rfl (fun _ _ _ h => h) rfl (by intro w hSw; go_simp) hS ?_
        simp only [ap]
        refine hpu 6 (o := ({ dst := some 102, op := Op.binOp BinOp.neq 23 (Operand.tmp 100) (Operand.tmp 101) 23, type := 4, pos := "law.go:232", after := #[{ on := 4, ground := Ground.data }, { on := 5, ground := Ground.data }, { on := 3, ground := Ground.guard }], guard := some (3, false) } : Oper)) (.bool false) (by kernel_rfl) rfl rfl (fun _ _ _ h => h) rfl (by intro w hSw; go_simp) hS ?_
        simp only [ap]
        refine hpu 7 (o := ({ dst := some 103, op := Op.pick (Operand.tmp 99) (Operand.const (Value.bool true)) (Operand.tmp 102), type := 4, pos := "law.go:232", after := #[{ on := 3, ground := Ground.data }, { on := 6, ground := Ground.data }], guard := none } : Oper)) (.bool false) (by kernel_rfl) rfl rfl (fun _ _ _ h => h) rfl (by intro w hSw; go_simp) hS ?_
        simp only [ap]
        refine hpu 8 (o := ({ dst := some 104, op := Op.move (Operand.tmp 103), type := 4, pos := "law.go:232", after := #[{ on := 7, ground := Ground.data }, { on := 3, ground := Ground.chain }], guard := none } : Oper)) (.bool false) (by kernel_rfl) rfl rfl (fun _ _ _ h => h) rfl (by intro w hSw; go_simp) hS ?_
        simp only [ap]
        refine hpu 9 (o := ({ dst := some 105, op := Op.move (Operand.tmp 27), type := 3, pos := "law.go:232", after := #[{ on := 8, ground := Ground.guard }], guard := some (8, false) } : Oper)) (.int .i64 wr) (by kernel_rfl) rfl rfl (fun _ _ _ h => h) rfl (by intro w hSw; go_simp) hS ?_
        simp only [ap]
        refine hpu 10 (o := ({ dst := some 106, op := Op.move (Operand.tmp 17), type := 3, pos := "law.go:232", after := #[{ on := 8, ground := Ground.guard }], guard := some (8, false) } : Oper)) (.int .i64 wr) (by kernel_rfl) rfl rfl (fun _ _ _ h => h) rfl (by intro w hSw; go_simp) hS ?_
        simp only [ap]
        refine hpu 11 (o := ({ dst := some 107, op := Op.binOp BinOp.neq 3 (Operand.tmp 105) (Operand.tmp 106) 3, type := 4, pos := "law.go:232", after := #[{ on := 9, ground := Ground.data }, { on := 10, ground := Ground.data }, { on := 8, ground := Ground.guard }], guard := some (8, false) } : Oper)) (.bool false) (by kernel_rfl) rfl rfl (fun _ _ _ h => h) rfl (by intro w hSw; go_simp) hS ?_
        simp only [ap]
        refine hpu 12 (o := ({ dst := some 108, op := Op.pick (Operand.tmp 104) (Operand.const (Value.bool true)) (Operand.tmp 107), type := 4, pos := "law.go:232", after := #[{ on := 8, ground := Ground.data }, { on := 11, ground := Ground.data }], guard := none } : Oper)) (.bool false) (by kernel_rfl) rfl rfl (fun _ _ _ h => h) rfl (by intro w hSw; go_simp) hS ?_
        simp only [ap]
        refine hpu 13 (o := ({ dst := some 109, op := Op.move (Operand.tmp 108), type := 4, pos := "law.go:232", after := #[{ on := 12, ground := Ground.data }, { on := 8, ground := Ground.chain }], guard := none } : Oper)) (.bool false) (by kernel_rfl) rfl rfl (fun _ _ _ h => h) rfl (by intro w hSw; go_simp) hS ?_
        simp only [ap]
        refine hpu 14 (o := ({ dst := some 110, op := Op.move (Operand.tmp 17), type := 3, pos := "law.go:232", after := #[{ on := 13, ground := Ground.guard }], guard := some (13, false) } : Oper)) (.int .i64 wr) (by kernel_rfl) rfl rfl (fun _ _ _ h => h) rfl (by intro w hSw; go_simp) hS ?_
        simp only [ap]
        refine hpu 15 (o := ({ dst := some 111, op := Op.binOp BinOp.eql 3 (Operand.tmp 110) (Operand.const (Value.int IntKind.i64 0)) 3, type := 4, pos := "law.go:232", after := #[{ on := 14, ground := Ground.data }, { on := 13, ground := Ground.guard }], guard := some (13, false) } : Oper)) (.bool false) (by kernel_rfl) rfl rfl (fun _ _ _ h => h) rfl (by intro w hSw; go_simp) hS ?_
        simp only [ap]
        refine hpu 16 (o := ({ dst := some 112, op := Op.move (Operand.tmp 111), type := 4, pos := "law.go:232", after := #[{ on := 15, ground := Ground.data }, { on := 13, ground := Ground.chain }, { on := 13, ground := Ground.guard }], guard := some (13, false) } : Oper)) (.bool false) (by kernel_rfl) rfl rfl (fun _ _ _ h => h) rfl (by intro w hSw; go_simp) hS ?_
        simp only [ap]
        refine h_off 17 (by kernel_rfl) rfl rfl (fun _ _ _ h => h) rfl hS ?_
        simp only [ap]
        refine h_off 18 (by kernel_rfl) rfl rfl (fun _ _ _ h => h) rfl hS ?_
        simp only [ap]
        refine h_off 19 (by kernel_rfl) rfl rfl (fun _ _ _ h => h) rfl hS ?_
        simp only [ap]
        refine h_off 20 (by kernel_rfl) rfl rfl (fun _ _ _ h => h) rfl hS ?_
        simp only [ap]
        refine h_off 21 (by kernel_rfl) rfl rfl (fun _ _ _ h => h) rfl hS ?_
        simp only [ap]
        refine h_off 22 (by kernel_rfl) rfl rfl (fun _ _ _ h => h) rfl hS ?_
        simp only [ap]
        refine h_off 23 (by kernel_rfl) rfl rfl (fun _ _ _ h => h) rfl hS ?_
        simp only [ap]
        refine h_off 24 (by kernel_rfl) rfl rfl (fun _ _ _ h => h) rfl hS ?_
        simp only [ap]
        refine hpu 25 (o := ({ dst := some 121, op := Op.pick (Operand.tmp 112) (Operand.tmp 120) (Operand.const (Value.bool false)), type := 4, pos := "law.go:232", after := #[{ on := 16, ground := Ground.data }, { on := 24, ground := Ground.data }, { on := 13, ground := Ground.guard }], guard := some (13, false) } : Oper)) (.bool false) (by kernel_rfl) rfl rfl (fun _ _ _ h => h) rfl (by intro w hSw; go_simp) hS ?_
        simp only [ap]
        refine hpu 26 (o := ({ dst := some 122, op := Op.pick (Operand.tmp 109) (Operand.const (Value.bool true)) (Operand.tmp 121), type := 4, pos := "law.go:232", after := #[{ on := 13, ground := Ground.data }, { on := 25, ground := Ground.data }], guard := none } : Oper)) (.bool false) (by kernel_rfl) rfl rfl (fun _ _ _ h => h) rfl (by intro w hSw; go_simp) hS ?_
        simp only [ap]
        refine hpu 27 (o := ({ dst := some 123, op := Op.move (Operand.tmp 122), type := 4, pos := "law.go:232", after := #[{ on := 26, ground := Ground.data }, { on := 21, ground := Ground.chain }], guard := none } : Oper)) (.bool false) (by kernel_rfl) rfl rfl (fun _ _ _ h => h) rfl (by intro w hSw; go_simp) hS ?_
        simp only [ap]
        refine hpu 28 (o := ({ dst := some 124, op := Op.move (Operand.tmp 17), type := 3, pos := "law.go:232", after := #[{ on := 27, ground := Ground.guard }], guard := some (27, false) } : Oper)) (.int .i64 wr) (by kernel_rfl) rfl rfl (fun _ _ _ h => h) rfl (by intro w hSw; go_simp) hS ?_
        simp only [ap]
        refine hpu 29 (o := ({ dst := some 125, op := Op.binOp BinOp.neq 3 (Operand.tmp 124) (Operand.const (Value.int IntKind.i64 0)) 3, type := 4, pos := "law.go:232", after := #[{ on := 28, ground := Ground.data }, { on := 27, ground := Ground.guard }], guard := some (27, false) } : Oper)) (.bool true) (by kernel_rfl) rfl rfl (fun _ _ _ h => h) rfl (by intro w hSw; go_simp) hS ?_
        simp only [ap]
        refine hpu 30 (o := ({ dst := some 126, op := Op.move (Operand.tmp 125), type := 4, pos := "law.go:232", after := #[{ on := 29, ground := Ground.data }, { on := 27, ground := Ground.chain }, { on := 27, ground := Ground.guard }], guard := some (27, false) } : Oper)) (.bool true) (by kernel_rfl) rfl rfl (fun _ _ _ h => h) rfl (by intro w hSw; go_simp) hS ?_
        simp only [ap]
        refine hpu 31 (o := ({ dst := some 127, op := Op.move (Operand.tmp 23), type := 3, pos := "law.go:232", after := #[{ on := 30, ground := Ground.guard }], guard := some (30, true) } : Oper)) (.int .i64 wr) (by kernel_rfl) rfl rfl (fun _ _ _ h => h) rfl (by intro w hSw; go_simp) hS ?_
        simp only [ap]
        refine hpu 32 (o := ({ dst := some 128, op := Op.move (Operand.tmp 17), type := 3, pos := "law.go:232", after := #[{ on := 30, ground := Ground.guard }], guard := some (30, true) } : Oper)) (.int .i64 wr) (by kernel_rfl) rfl rfl (fun _ _ _ h => h) rfl (by intro w hSw; go_simp) hS ?_
        simp only [ap]
        refine hpu 33 (o := ({ dst := some 129, op := Op.binOp BinOp.neq 3 (Operand.tmp 127) (Operand.tmp 128) 3, type := 4, pos := "law.go:232", after := #[{ on := 31, ground := Ground.data }, { on := 32, ground := Ground.data }, { on := 30, ground := Ground.guard }], guard := some (30, true) } : Oper)) (.bool false) (by kernel_rfl) rfl rfl (fun _ _ _ h => h) rfl (by intro w hSw; go_simp) hS ?_
        simp only [ap]
        refine hpu 34 (o := ({ dst := some 130, op := Op.pick (Operand.tmp 126) (Operand.tmp 129) (Operand.const (Value.bool false)), type := 4, pos := "law.go:232", after := #[{ on := 30, ground := Ground.data }, { on := 33, ground := Ground.data }, { on := 27, ground := Ground.guard }], guard := some (27, false) } : Oper)) (.bool false) (by kernel_rfl) rfl rfl (fun _ _ _ h => h) rfl (by intro w hSw; go_simp) hS ?_
        simp only [ap]
        refine hpu 35 (o := ({ dst := some 131, op := Op.pick (Operand.tmp 123) (Operand.const (Value.bool true)) (Operand.tmp 130), type := 4, pos := "law.go:232", after := #[{ on := 27, ground := Ground.data }, { on := 34, ground := Ground.data }], guard := none } : Oper)) (.bool false) (by kernel_rfl) rfl rfl (fun _ _ _ h => h) rfl (by intro w hSw; go_simp) hS ?_
        simp only [ap]
        refine wpAnyH_done (by kernel_rfl) ?_ _
        have HCe := Lib.hid (HC9.out.below hS)
        have He := Lib.hid (H9.out.below hS)
        have HQe := Lib.hid (HQ9.out.below hS)
        have HX18e := Lib.hid (HX18d.out.below hS HX18d.out.lt)
        have HX24e := Lib.hid (HX24d.out.below hS HX24d.out.lt)
        have HBe := Lib.hid (bt HB0.out (bt HB9.out hS))
        clear hS q1 l0 l1 m0 m1 j0 j1 HX16d HX18d HX22d HX24d HX26 hne1 hne2
        have HK1 := Lib.hid (cells_any HCe.out)
        have HK2 := Lib.hid (cells_any He.out)
        rw [HV.out.2.2.2.2.1.1] at HK1
        obtain ⟨z, hz⟩ : ∃ z, cellsL L = z := ⟨_, rfl⟩
        rw [hz] at HK1 HK2
        clear hz
        have hzz : (z == z) = true := by simp
        have hff : (f0 == f0) = true := by simp
        have q1 := run_eql23
        have y0 := ((HQe.out.1).cell 0).trans rfl
        have y1 := ((HQe.out.1).cell 1).trans rfl
        have y2 := ((HQe.out.2.1).cell 0).trans rfl
        have y3 := ((HQe.out.2.1).cell 1).trans rfl
        have y4 := ((HQe.out.2.2.1).cell 0).trans rfl
        have y5 := ((HQe.out.2.2.1).cell 1).trans rfl
        have y6 := ((HQe.out.2.2.2).cell 0).trans rfl
        have y7 := ((HQe.out.2.2.2).cell 1).trans rfl
        have u0 := ((HX18e.out).cell 0).trans rfl
        have u1 := ((HX18e.out).cell 1).trans rfl
        have u2 := ((HX24e.out).cell 0).trans rfl
        have u3 := ((HX24e.out).cell 1).trans rfl
        have hyy : (p2 == p2 && q2 == q2) = true := by simp
        by_cases hs : (ak = bk ∧ an = bn) ∧ (ik = kk ∧ iN = kn)
        · have r1 : (ak == bk && an == bn) = true := by simp [hs.1.1, hs.1.2]
          have r2 : (ik == kk && iN == kn) = true := by simp [hs.2.1, hs.2.2]
          clear hs
          go_wp2_with (first | (go_at_call 16; refine HK1.out.mono ?_; rintro e w' ⟨rfl, rfl⟩) | (go_at_call 16; refine HK2.out.mono ?_; rintro e w' ⟨rfl, rfl⟩))
          go_ret
          exact ⟨rfl, HBe.out⟩
        · have hpq := HV.out.2.2.2.2.1.2 hs
          obtain ⟨rfl, rfl⟩ := hpq
          by_cases hs1 : ak = bk ∧ an = bn
          · have r1 : (ak == bk && an == bn) = true := by simp [hs1.1, hs1.2]
            have r2 : (ik == kk && iN == kn) = false := by
              rw [Bool.and_eq_false_iff]
              by_cases h : ik = kk
              · exact .inr (beq_eq_false_iff_ne.2 fun q => hs ⟨hs1, h, q⟩)
              · exact .inl (beq_eq_false_iff_ne.2 h)
            clear hs hs1
            go_wp2_with (first | (go_at_call 16; refine HK1.out.mono ?_; rintro e w' ⟨rfl, rfl⟩) | (go_at_call 16; refine HK2.out.mono ?_; rintro e w' ⟨rfl, rfl⟩))
            go_ret
            exact ⟨rfl, HBe.out⟩
          · have r1 : (ak == bk && an == bn) = false := by
              rw [Bool.and_eq_false_iff]
              by_cases h : ak = bk
              · exact .inr (beq_eq_false_iff_ne.2 fun q => hs1 ⟨h, q⟩)
              · exact .inl (beq_eq_false_iff_ne.2 h)
            clear hs hs1
            go_wp2_with (first | (go_at_call 16; refine HK1.out.mono ?_; rintro e w' ⟨rfl, rfl⟩) | (go_at_call 16; refine HK2.out.mono ?_; rintro e w' ⟨rfl, rfl⟩))
            go_ret
            exact ⟨rfl, HBe.out⟩
end Go.Proofs.Ytpeodpgihmcghaa
