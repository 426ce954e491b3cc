/- PROVED here: the contract of the document's Bare. No condition but those in each theorem's own head. -/
import Derived.Test.YtcnmkmdedeiffaaX
import Derived.Test.YtcnmkmdedeiffaaY
import Derived.Laws.AppendOwnNone
namespace Go.Proofs.Ytcnmkmdedeiffaa
open Go Go.RowKit

/-- what the document's Bare has made -/
structure RB (w : World) (tv : List Value) (L : List Nd) (v : Value) (ls : List RN) (wr : World) : Prop where
  t : Bx wr w.heap.size 30 tv
  r : Bx wr (w.heap.size + 1) 30 [.slice none 0 0, .int .i64 0]
  o : wr.ownsRow (w.heap.size + 2) 24 5 v L.length (rl ls)
  a : Kal wr (.slice none 0 0) ls
  e : ls.map RN.nd = L
  b : Below w.heap.size w wr
section
variable {w : World} {tv : List Value} {L : List Nd} {v : Value} {ls : List RN} {wr wr' : World}
theorem RB.below (h : RB w tv L v ls wr) (hb : Below wr.heap.size wr wr') : RB w tv L v ls wr' :=
  ⟨h.t.below hb h.t.lt, h.r.below hb h.r.lt, own_belowG h.o hb, h.a.below hb, h.e, h.b.trans (hb.mono h.b.size)⟩
theorem RB.node (h : RB w tv L v ls wr) {x : RN} {v' : Value} (hx : Kok wr (.slice none 0 0) x) (hg : wr.grownBy wr' v.ownBlock) (ho : wr'.ownsRow (w.heap.size + 2) 24 5 v' (L.length + 1) (rl ls ++ x.cv)) : RB w tv (L ++ [x.nd]) v' (ls ++ [x]) wr' := by
  have h24 := own_rowT h.o
  have hlt : ∀ b, some b = v.ownBlock → w.heap.size + 2 ≤ b := fun b e => (h.o.lt b e.symm).1
  refine ⟨h.t.grown hg (fun e => by have := hlt _ e; omega), h.r.grown hg (fun e => by have := hlt _ e; omega), ?_, ?_, by rw [List.map_append, h.e]; rfl, h.b.grown hg h.b.size (fun b e => by have := hlt b e.symm; omega)⟩
  · rw [List.length_append, rl_app]
    rw [show rl [x] = x.cv by show x.cv ++ [] = _; rw [List.append_nil]]
    exact ho
  · have ha : Kal wr (.slice none 0 0) (ls ++ [x]) := fun y hy => by
      rcases List.mem_append.1 hy with hy | hy
      · exact h.a y hy
      · obtain rfl : y = x := by simpa using hy
        exact hx
    exact ha.grown24 hg h24
end
/-- kids copied into a slice of their own -/
def CpI (W1 : World) (x : Nd) (W : World) : Prop := ∃ K c, Bx W W1.heap.size 24 [.int .i64 x.kd, .int .i64 x.n, .int .i64 x.pl, .string x.tx, .slice K x.ks.length c] ∧ Kok W (.slice none 0 0) ⟨x, K, c⟩ ∧ Below W1.heap.size W1 W
set_option maxRecDepth 100000 in
set_option maxHeartbeats 1500000 in
theorem rbare_any (A : Option Addr) (c n : Nat) (l : List Nd) (r : Int) (w : World) (hN : Nds w A l) (hn : n = l.length) (hl : n ≤ 10000000) (hk : ∀ x ∈ l, x.ks.length ≤ 4000) (hkn : KN w A n) : Calls Try.prog 14 #[.agg #[.slice A n c, .int .i64 r]] w (RPost (l.map brN) r w) := by
  obtain ⟨i0, hi, hz0, hz1, hz2⟩ := info_parts info24
  obtain ⟨j0, ji, jz0, jz1, jz2⟩ := info_parts info3
  have e0 : ∀ (w' : World) (o : Obj), (w'.alloc o).heap.size = w'.heap.size + 1 := fun w' o => World.size_alloc w' o
  have HN := Lib.hid hN
  have HL := Lib.hid hn
  have HK := Lib.hid hk
  have HKN := Lib.hid hkn
  clear hN hn hk hkn
  go_enter Try.func14, Try.ntmps14
  go_wp2
  go_loopw [3, 4] (fun v i wr => ∃ (k : Nat) (ls : List RN), k ≤ n ∧ i = .int .i64 (k : Int) ∧ RB w [.slice A n c, .int .i64 r] ((l.take k).map brN) v ls wr) (fun _ i _ => n - (intOf i).toNat)
  case atStart =>
    refine ⟨0, [], Nat.zero_le _, rfl, (Bx.new w 30 _).alloc _, ?_, World.ownsRow_nil _ _ _ _, fun x hx => (by cases hx), rfl, (heap1 w _).alloc (by rw [e0]; omega) _⟩
    have := (Bx.new (w.alloc (.cells #[.slice A n c, .int .i64 r] 30)) 30 [.slice none 0 0, .int .i64 0])
    rw [e0] at this; exact this
  case round =>
    obtain ⟨k, ls, hk, rfl, hO⟩ := hrel
    obtain ⟨V, cV, rfl⟩ := own_sliceG hO.o
    obtain ⟨W1, rfl⟩ : ∃ W1, W1 = wr := ⟨_, rfl⟩
    obtain ⟨L, hL⟩ : ∃ L, L = (l.take k).map brN := ⟨_, rfl⟩
    have HLL := Lib.hid hL
    rw [← hL] at hO ⊢
    have hlb : L.length ≤ 10000000 := by rw [hL, List.length_map, List.length_take]; omega
    clear hL
    have d0 := hO.t.cell 0
    have d1 := hO.t.cell 1
    simp only [List.getElem?_cons_zero, List.getElem?_cons_succ] at d0 d1
    have hwz : w.heap.size + 1 < W1.heap.size := hO.r.lt
    by_cases hlt : k < n
    · have hlz : (k : Int) < (n : Int) := by omega
      have hkl : k < l.length := by rw [← HL.out]; exact hlt
      obtain ⟨bA, off, rfl, hbl, hc⟩ := HN.out (by omega)
      obtain ⟨K, ck, a0, a1, a2, a3, a4, hI⟩ := hc k hkl
      have hkz := HKN.out bA off rfl k hlt
      have hks := HK.out _ (List.getElem_mem hkl)
      have HTT := Lib.hid (show l.take (k + 1) = l.take k ++ [l[k]] from List.take_succ_eq_append_getElem hkl)
      clear hc
      generalize l[k] = x at *
      obtain ⟨xk, xn, xp, xt, ks⟩ := x
      dsimp only at a0 a1 a2 a3 a4 hI hks
      have hkz2 : K = none → ck = 0 := fun e => hkz ks.length ck (by rw [a4, e])
      have a0 := (hO.b.cell (p := ⟨bA, off + k * 5, none⟩) hbl).trans a0
      have a1 := (hO.b.cell (p := ⟨bA, off + k * 5 + 1, none⟩) hbl).trans a1
      have a2 := (hO.b.cell (p := ⟨bA, off + k * 5 + 2, none⟩) hbl).trans a2
      have a3 := (hO.b.cell (p := ⟨bA, off + k * 5 + 3, none⟩) hbl).trans a3
      have a4 := (hO.b.cell (p := ⟨bA, off + k * 5 + 4, none⟩) hbl).trans a4
      have HI := Lib.hid hI
      have HO := Lib.hid hO
      clear hI hO hkz
      go_upto_region 7 with (fail)
      refine gen_world (fun W => Bx W W1.heap.size 24 [.int .i64 xk, .int .i64 xn, .int .i64 0, .string xt, .slice K ks.length ck] ∧ Below W1.heap.size W1 W ∧ W1.heap.size < W.heap.size) ⟨Bx.new W1 24 _, heap1 _ _, by rw [e0]; omega⟩ ?_
      clear a0 a1 a2 a3 a4 d0 d1
      rintro W2 ⟨hBX, hb2, hz2w⟩
      have hBY := hBX.alloc (.cells #[] 3)
      have x4 := hBY.cell 4
      have f4 := hBY.frozen 4
      simp only [List.getElem?_cons_zero, List.getElem?_cons_succ] at x4
      have hmade : (W2.alloc (.cells #[] 3)).ownsRow W2.heap.size 3 1 (.slice (some ⟨W2.heap.size, 0, none⟩) 0 0) 0 [] := World.ownsRow_made (w := W2) (base := W2.heap.size) (e := 3) (size := 1) #[] 0 (Nat.le_refl _) (by decide) rfl
      have hb3 := hb2.alloc hb2.size (.cells #[] 3)
      obtain ⟨W3, hW3⟩ : ∃ W3, W2.alloc (.cells #[] 3) = W3 := ⟨_, rfl⟩
      have HS3 := Lib.hid (show W3.heap.size = W2.heap.size + 1 by rw [← hW3, e0])
      rw [hW3] at hb3 hBY x4 f4 hmade
      have HB3 := Lib.hid hb3
      have HBY := Lib.hid hBY
      clear hb2 hb3 hBX hBY
      have fin : ∀ (v' : Value) (w4 : World), w4.ownsRow W2.heap.size 3 1 v' ks.length (iv ks) → W3.grownBy w4 (some W2.heap.size) → ∃ KL cL, v' = .slice KL ks.length cL ∧ w4.cell? ⟨W1.heap.size, 4, none⟩ = some (.slice K ks.length ck) ∧ w4.frozen? ⟨W1.heap.size, 4, none⟩ = false ∧
          RB w [.slice (some ⟨bA, off, none⟩) n c, .int .i64 r] L (.slice V L.length cV) ls (w4.setCell ⟨W1.heap.size, 4, none⟩ v') ∧ Bx (w4.setCell ⟨W1.heap.size, 4, none⟩ v') W1.heap.size 24 [.int .i64 xk, .int .i64 xn, .int .i64 0, .string xt, .slice KL ks.length cL] ∧ Kok (w4.setCell ⟨W1.heap.size, 4, none⟩ v') (.slice none 0 0) ⟨⟨xk, xn, 0, xt, ks⟩, KL, cL⟩ := fun v' w4 hown hgrow => by
        have hB4 := HBY.out.grown hgrow (fun e => by injection e with e; omega)
        have hbW : Below W1.heap.size W1 w4 := HB3.out.grown hgrow (by have := HS3.out; omega) (fun b hb => by injection hb with hb; omega)
        have hbS := hbW.setCell (p := ⟨W1.heap.size, 4, none⟩) (Nat.le_refl _) v'
        have ho2 := own3_set (i := 4) (u := v') hown hz2w
        obtain ⟨KL, cL, eL, hIL, hKL, hKZ⟩ := own3 rfl ho2
        refine ⟨KL, cL, eL, (hB4.cell 4).trans rfl, hB4.frozen 4, HO.out.below hbS, ?_, hIL, fun b off e => ⟨(hKL b off e).1, by simp [Value.ownBlock]⟩, hKZ⟩
        have := hB4.set_ 4 v'
        rw [eL] at this ⊢
        exact this
      have HF := Lib.hid fin
      clear fin
      cases K with
      | none =>
        have hz : ks.length = 0 := by
          by_cases h : 0 < ks.length
          · obtain ⟨b, o, e, _⟩ := HI.out h; cases e
          · omega
        have hck := hkz2 rfl
        obtain rfl : ks = [] := List.length_eq_zero_iff.1 hz
        subst hck
        rw [show ([] : List Int).length = 0 from rfl] at x4
        obtain ⟨KL, cL, eL, t1, t2, t3, t4, t5⟩ := HF.out _ W3 hmade ⟨rfl, rfl, rfl, Nat.le_refl _, fun _ _ _ => rfl⟩
        rw [show ([] : List Int).length = 0 from rfl] at eL t1 t4
        cases eL
        go_upto_region 8 with (first
          | (at_builtin; refine wpList_append_own_none _ rfl _ _ 22 rfl W2.heap.size 3 j0 1 Try.underlying22 ji _ _ _ rfl hmade rfl ?_))
        refine gen_world (fun W => RB w [.slice (some ⟨bA, off, none⟩) n c, .int .i64 r] L (.slice V L.length cV) ls W ∧ Bx W W1.heap.size 24 [.int .i64 xk, .int .i64 xn, .int .i64 0, .string xt, .slice (some ⟨W2.heap.size, 0, none⟩) 0 0] ∧ Kok W (.slice none 0 0) ⟨⟨xk, xn, 0, xt, []⟩, (some ⟨W2.heap.size, 0, none⟩), 0⟩) ⟨t3, t4, t5⟩ ?_
        clear t3 t4 t5 hmade x4 f4 hW3
        rintro W ⟨hRW, hBW, hKW⟩
        have b0 := hBW.cell 0
        have b1 := hBW.cell 1
        have b2 := hBW.cell 2
        have b3 := hBW.cell 3
        have b4 := hBW.cell 4
        simp only [List.getElem?_cons_zero, List.getElem?_cons_succ] at b0 b1 b2 b3 b4
        have hRB := hRW.below (heap1 W (.cells #[.int .i64 xk, .int .i64 xn, .int .i64 0, .string xt, .slice (some ⟨W2.heap.size, 0, none⟩) 0 0] 24))
        have hKB : Kok (W.alloc (.cells #[.int .i64 xk, .int .i64 xn, .int .i64 0, .string xt, .slice (some ⟨W2.heap.size, 0, none⟩) 0 0] 24)) (.slice none 0 0) ⟨⟨xk, xn, 0, xt, []⟩, (some ⟨W2.heap.size, 0, none⟩), 0⟩ := hKW.keep (heap1 _ _).size fun b h3 hn => ⟨(heap1 W _).block b h3.lt, hn⟩
        have HRB := Lib.hid hRB
        have HKB := Lib.hid hKB
        have hoW := hRB.o
        have hz9 := hRW.r.lt
        clear hRW hRB hKB hKW hBW
        go_wp2_with (first
          | (at_builtin; refine wpList_append_own _ rfl _ _ 28 rfl (w.heap.size + 2) 24 i0 (.agg #[.int .i64 0, .int .i64 0, .int .i64 0, .string ⟨#[]⟩, .slice none 0 0]) 5 64 Try.underlying28 hi hz0 hz1 hz2 rfl (by decide) _ _ _ rfl hoW ⟨W.heap.size, 0, none⟩ 1 1 [.int .i64 xk, .int .i64 xn, .int .i64 0, .string xt, .slice (some ⟨W2.heap.size, 0, none⟩) 0 0] rfl rfl (blk_cells W [.int .i64 xk, .int .i64 xn, .int .i64 0, .string xt, .slice (some ⟨W2.heap.size, 0, none⟩) 0 0] 24) (one5 ⟨⟨xk, xn, 0, xt, []⟩, (some ⟨W2.heap.size, 0, none⟩), 0⟩) ?c3 ?c4 ?c5 ?_))
        case c3 => unfold maxLen; omega
        case c4 => omega
        case c5 => first | omega | (rw [e0]; omega)
        intro v' w4 hown4 hgrow4 _
        have HN4 := Lib.hid (HRB.out.node HKB.out hgrow4 hown4)
        clear hown4 hgrow4 hoW
        go_wp2
        go_roundw
        case rel =>
          refine ⟨k + 1, ls ++ [⟨⟨xk, xn, 0, xt, []⟩, (some ⟨W2.heap.size, 0, none⟩), 0⟩], by omega, by go_num, ?_⟩
          rw [HTT.out, List.map_append, ← HLL.out]
          exact HN4.out
        case measure => simp [intOf]; omega
      | some a =>
        go_upto_region 8 with (first
          | (at_builtin; refine wpList_append_own _ rfl _ _ 22 rfl W2.heap.size 3 j0 (.int .i64 0) 1 8 Try.underlying22 ji jz0 jz1 jz2 rfl (by decide) _ _ _ rfl hmade a ks.length ck (iv ks) rfl (by unfold iv; rw [List.length_map]; omega) ?c1 ?c2 ?c3 ?c4 ?c5 ?_))
        case c1 =>
          intro j u hj
          have hjk : j < ks.length := by have := (List.getElem?_eq_some_iff.1 hj).1; unfold iv at this; rw [List.length_map] at this; exact this
          obtain ⟨b, o, e, hbI, hcI⟩ := HI.out (by omega)
          cases e
          have h1 := hcI j hjk
          have h2 : (iv ks)[j]? = some (.int .i64 ks[j]) := by unfold iv; simp [hjk]
          rw [hj] at h2
          rw [h2, ← h1]
          rw [show (⟨b, o, none⟩ : Addr).add j = ⟨b, o + j, none⟩ by simp [Addr.add]]
          exact ((HO.out.b.trans (HB3.out.mono HO.out.b.size)).cell (p := ⟨b, o + j, none⟩) hbI)
        case c2 =>
          intro u hu
          unfold iv at hu
          obtain ⟨x, _, rfl⟩ := List.mem_map.1 hu
          rfl
        case c3 => unfold maxLen; omega
        case c4 => omega
        case c5 => have := HS3.out; omega
        intro v' w4 hown4 hgrow4 _
        obtain ⟨KL, cL, eL, t1, t2, t3, t4, t5⟩ := HF.out v' w4 hown4 hgrow4
        subst eL
        go_upto_region 8 with (fail)
        refine gen_world (fun W => RB w [.slice (some ⟨bA, off, none⟩) n c, .int .i64 r] L (.slice V L.length cV) ls W ∧ Bx W W1.heap.size 24 [.int .i64 xk, .int .i64 xn, .int .i64 0, .string xt, .slice KL ks.length cL] ∧ Kok W (.slice none 0 0) ⟨⟨xk, xn, 0, xt, ks⟩, KL, cL⟩) ⟨t3, t4, t5⟩ ?_
        clear t3 t4 t5 hmade x4 f4 hW3
        rintro W ⟨hRW, hBW, hKW⟩
        have b0 := hBW.cell 0
        have b1 := hBW.cell 1
        have b2 := hBW.cell 2
        have b3 := hBW.cell 3
        have b4 := hBW.cell 4
        simp only [List.getElem?_cons_zero, List.getElem?_cons_succ] at b0 b1 b2 b3 b4
        have hRB := hRW.below (heap1 W (.cells #[.int .i64 xk, .int .i64 xn, .int .i64 0, .string xt, .slice KL ks.length cL] 24))
        have hKB : Kok (W.alloc (.cells #[.int .i64 xk, .int .i64 xn, .int .i64 0, .string xt, .slice KL ks.length cL] 24)) (.slice none 0 0) ⟨⟨xk, xn, 0, xt, ks⟩, KL, cL⟩ := hKW.keep (heap1 _ _).size fun b h3 hn => ⟨(heap1 W _).block b h3.lt, hn⟩
        have HRB := Lib.hid hRB
        have HKB := Lib.hid hKB
        have hoW := hRB.o
        have hz9 := hRW.r.lt
        clear hRW hRB hKB hKW hBW
        go_wp2_with (first
          | (at_builtin; refine wpList_append_own _ rfl _ _ 28 rfl (w.heap.size + 2) 24 i0 (.agg #[.int .i64 0, .int .i64 0, .int .i64 0, .string ⟨#[]⟩, .slice none 0 0]) 5 64 Try.underlying28 hi hz0 hz1 hz2 rfl (by decide) _ _ _ rfl hoW ⟨W.heap.size, 0, none⟩ 1 1 [.int .i64 xk, .int .i64 xn, .int .i64 0, .string xt, .slice KL ks.length cL] rfl rfl (blk_cells W [.int .i64 xk, .int .i64 xn, .int .i64 0, .string xt, .slice KL ks.length cL] 24) (one5 ⟨⟨xk, xn, 0, xt, ks⟩, KL, cL⟩) ?c3 ?c4 ?c5 ?_))
        case c3 => unfold maxLen; omega
        case c4 => omega
        case c5 => first | omega | (rw [e0]; omega)
        intro v' w4 hown4 hgrow4 _
        have HN4 := Lib.hid (HRB.out.node HKB.out hgrow4 hown4)
        clear hown4 hgrow4 hoW
        go_wp2
        go_roundw
        case rel =>
          refine ⟨k + 1, ls ++ [⟨⟨xk, xn, 0, xt, ks⟩, KL, cL⟩], by omega, by go_num, ?_⟩
          rw [HTT.out, List.map_append, ← HLL.out]
          exact HN4.out
        case measure => simp [intOf]; omega
    · obtain rfl : k = n := by omega
      have hlz : ¬ (k : Int) < (k : Int) := by omega
      have hcr0 := hO.r.cell 0
      have hcr1 := hO.r.cell 1
      have hfr0 := hO.r.frozen 0
      have hfr1 := hO.r.frozen 1
      simp only [List.getElem?_cons_zero, List.getElem?_cons_succ] at hcr0 hcr1
      have hql : L.length = (l.map brN).length := by rw [HLL.out, List.take_of_length_le (by rw [← HL.out]; omega)]
      have hLm : L = l.map brN := by rw [HLL.out, List.take_of_length_le (by rw [← HL.out]; omega)]
      have HQL := Lib.hid (And.intro hql hLm)
      obtain ⟨q, hq⟩ : ∃ q, q = L.length := ⟨_, rfl⟩
      rw [← hq] at hlb ⊢
      have HQ := Lib.hid hq
      have HO := Lib.hid hO
      clear hO hql hLm hq
      go_wp2
      have h := HO.out
      rw [← HQ.out] at h
      have ho0 := h.o
      rw [← HQ.out] at ho0
      have hE3 := (h.r.set_ 0 (.slice V q cV)).set_ 1 (.int .i64 r)
      have ho3 := own_set (i := 1) (u := .int .i64 r) (own_set (i := 0) (u := .slice V q cV) ho0 (show w.heap.size + 1 < w.heap.size + 2 by omega)) (show w.heap.size + 1 < w.heap.size + 2 by omega)
      have hne : ∀ b, Is3 W1 b → b ≠ w.heap.size + 1 := fun b h3 e => by
        subst e
        obtain ⟨cs, hc⟩ := h3
        rw [show W1.heap[w.heap.size + 1]? = _ from h.r] at hc; simp at hc
      have hne2 : ∀ b, Is3 (W1.setCell ⟨w.heap.size + 1, 0, none⟩ (.slice V q cV)) b → b ≠ w.heap.size + 1 := fun b h3 e => by
        subst e
        obtain ⟨cs, hc⟩ := h3
        rw [show (W1.setCell ⟨w.heap.size + 1, 0, none⟩ (.slice V q cV)).heap[w.heap.size + 1]? = _ from h.r.set_ 0 _] at hc; simp at hc
      have ha3 := (h.a.keep (w' := W1.setCell ⟨w.heap.size + 1, 0, none⟩ (.slice V q cV)) (by rw [World.size_setCell]; exact Nat.le_refl _) fun b h3 hn => ⟨heap_setCell_other W1 _ b _ (hne b h3), hn⟩).keep (w' := (W1.setCell ⟨w.heap.size + 1, 0, none⟩ (.slice V q cV)).setCell ⟨w.heap.size + 1, 1, none⟩ (.int .i64 r)) (by simp only [World.size_setCell]; exact Nat.le_refl _) fun b h3 hn => ⟨heap_setCell_other _ _ b _ (hne2 b h3), hn⟩
      have hb3 := (h.b.setCell (p := ⟨w.heap.size + 1, 0, none⟩) (by show _ ≤ w.heap.size + 1; omega) (.slice V q cV)).setCell (p := ⟨w.heap.size + 1, 1, none⟩) (by show _ ≤ w.heap.size + 1; omega) (.int .i64 r)
      clear hne hne2
      generalize (W1.setCell ⟨w.heap.size + 1, 0, none⟩ (.slice V q cV)).setCell ⟨w.heap.size + 1, 1, none⟩ (.int .i64 r) = W3 at *
      have hr0 := hE3.cell 0
      have hr1 := hE3.cell 1
      simp only [List.set_cons_zero, List.set_cons_succ, List.getElem?_cons_zero, List.getElem?_cons_succ] at hr0 hr1
      obtain ⟨A2, c2, e2, hN2, hc2, hkn2⟩ := nds_rn (by rw [HQ.out, ← h.e, List.length_map]) ho3 ha3
      cases e2
      rw [h.e, HQL.out.2] at hN2
      have hll : (l.map brN).length = q := by rw [HQ.out]; exact HQL.out.1.symm
      exact bodyPost_ret (v := .agg #[.slice V q cV, .int .i64 r]) (by simp [results, Try.f14, go_sem, hr0, hr1]) rfl ⟨V, cV, by rw [hll], hN2, by rw [hll]; exact hc2, hb3, by rw [hll]; exact hkn2⟩
end Go.Proofs.Ytcnmkmdedeiffaa
