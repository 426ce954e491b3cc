/- PROVED here: the contract of the document's Over. No condition but those in each theorem's own head. -/
import Derived.Test.YtcnmkmdedeiffaaW
namespace Go.Proofs.Ytcnmkmdedeiffaa
open Go Go.RowKit

/-- a tree that the document's functions answer -/
def RPost (l : List Nd) (r : Int) (w : World) (e : Ending) (w' : World) : Prop := ∃ A c, e = .returned (.agg #[.slice A l.length c, .int .i64 r]) ∧ Nds w' A l ∧ l.length ≤ c ∧ Below w.heap.size w w' ∧ KN w' A l.length
theorem iv_app (a b : List Int) : iv (a ++ b) = iv a ++ iv b := List.map_append
theorem blk_cells (w : World) (l : List Value) (t : TypeId) : ∀ j u, l[j]? = some u → (w.alloc (.cells l.toArray t)).cell? ((⟨w.heap.size, 0, none⟩ : Addr).add j) = some u := fun j u hj => by
  have hB := Bx.new w t l
  rw [show (⟨w.heap.size, 0, none⟩ : Addr).add j = ⟨w.heap.size, j, none⟩ by simp [Addr.add]; omega, hB.cell j, hj]
theorem one1 (x : Int) : ∀ u ∈ [Value.int .i64 x], u.oneCell' = true := fun u hu => by
  obtain rfl : u = _ := List.mem_singleton.1 hu
  rfl
theorem one5 (x : RN) : ∀ u ∈ x.cv, u.oneCell' = true := fun u hu => by
  unfold RN.cv at hu
  simp at hu
  rcases hu with rfl | rfl | rfl | rfl | rfl <;> rfl
set_option maxRecDepth 100000 in
set_option maxHeartbeats 1500000 in
theorem rover_any (kd nn pl : Int) (tx : ByteArray) (K0 : Option Addr) (n0 c0 : Nat) (A : Option Addr) (m c : Nat) (ts : List Tr) (w : World) (hT : Trs w A ts) (hm : m = ts.length) (hm2 : m ≤ 4000) (ht : ∀ t ∈ ts, t.1.length ≤ 4000 ∧ ∀ x ∈ t.1, x.ks.length ≤ 4000) (hs2 : ∀ i, (ovA (ts.take i)).length ≤ 10000000) :
    Calls Try.prog 11 #[.agg #[.int .i64 kd, .int .i64 nn, .int .i64 pl, .string tx, .slice K0 n0 c0], .slice A m c] w (RPost (ovL kd nn pl tx ts) ((ovA ts).length : Int) w) := by
  obtain ⟨i0, hi, hz0, hz1, hz2⟩ := info_parts info24
  obtain ⟨j0, ji, jz0, jz1, jz2⟩ := info_parts info3
  have e0 : ∀ (w' : World) (o : Obj), (w'.alloc o).heap.size = w'.heap.size + 1 := fun w' o => World.size_alloc w' o
  have HT := Lib.hid hT
  have HM := Lib.hid hm
  have HTS := Lib.hid ht
  have HS2 := Lib.hid hs2
  clear hT hm ht hs2
  go_enter Try.func11, Try.ntmps11
  go_wp2
  go_loopw [5, 6, 7] (fun v rv i wr => ∃ (k : Nat) (ls : List RN), k ≤ m ∧ i = .int .i64 (k : Int) ∧ RI w [.int .i64 kd, .int .i64 nn, .int .i64 pl, .string tx, .slice K0 n0 c0] ts k (ovA (ts.take k)) v rv ls wr) (fun _ _ i _ => m - (intOf i).toNat)
  case atStart =>
    refine ⟨0, [], Nat.zero_le _, rfl, (Bx.new w 24 _).alloc _, ?_, World.ownsRow_nil _ _ _ _, World.ownsRow_nil _ _ _ _, fun x hx => (by cases hx), rfl, (heap1 w _).alloc (by rw [e0]; omega) _⟩
    have := (Bx.new (w.alloc (.cells #[.int .i64 kd, .int .i64 nn, .int .i64 pl, .string tx, .slice K0 n0 c0] 24)) 30 [.slice none 0 0, .int .i64 0])
    rw [e0] at this; exact this
  case round =>
    obtain ⟨k, ls, hk, rfl, hO⟩ := hrel
    obtain ⟨V, cV, rfl⟩ := own_sliceG hO.o
    obtain ⟨R, cR, rfl⟩ := own_sliceG hO.q
    obtain ⟨W0, rfl⟩ : ∃ W0, W0 = wr := ⟨_, rfl⟩
    have hlb : (ovA (ts.take k)).length ≤ 10000000 := HS2.out k
    obtain ⟨q, hq⟩ : ∃ q, q = (ovA (ts.take k)).length := ⟨_, rfl⟩
    have HQ := Lib.hid hq
    rw [← hq] at hlb ⊢
    clear hq
    by_cases hlt : k < m
    · have hlz : (k : Int) < (m : Int) := by omega
      have hkt : k < ts.length := by rw [← HM.out]; exact hlt
      obtain ⟨bA, off, rfl, hbl, hc⟩ := HT.out (by omega)
      obtain ⟨K, ck, d0', d1', hN, hck⟩ := hc k hkt
      obtain ⟨ht1, ht2⟩ := HTS.out _ (List.getElem_mem hkt)
      have HTK := Lib.hid (show ts.getD k ([], 0) = ts[k] by simp [List.getD, hkt])
      have HTT := Lib.hid (show ts.take (k + 1) = ts.take k ++ [ts[k]] from List.take_succ_eq_append_getElem hkt)
      clear hc hck
      generalize ts[k] = t at *
      obtain ⟨tn, tr⟩ := t
      dsimp only at d0' d1' hN ht1 ht2
      have HRT := Lib.hid (show wrap64 (tr + (q : Int)) = rtF ts k by unfold rtF; rw [HTK.out, HQ.out]; rw [Int.add_comm])
      have HNN := Lib.hid hN
      have HO := Lib.hid hO
      clear hN hO
      go_wp2
      go_loopw [5, 9] (fun v i wr => ∃ (p : Nat) (ls : List RN), p ≤ tn.length ∧ i = .int .i64 (p : Int) ∧ RI w [.int .i64 kd, .int .i64 nn, .int .i64 pl, .string tx, .slice K0 n0 c0] ts k (ovA (ts.take k) ++ (tn.take p).map (mvN (q : Int))) v (.slice R k cR) ls wr) (fun _ i _ => tn.length - (intOf i).toNat)
      case atStart =>
        refine ⟨0, ls, Nat.zero_le _, rfl, ?_⟩
        rw [List.take_zero, List.map_nil, List.append_nil, HQ.out]
        exact HO.out
      case round =>
        obtain ⟨p, ls2, hp, rfl, hO2⟩ := hrel
        obtain ⟨V2, cV2, rfl⟩ := own_sliceG hO2.o
        obtain ⟨W1, rfl⟩ : ∃ W1, W1 = wr := ⟨_, rfl⟩
        have d0 := (hO2.b.cell (p := ⟨bA, off + k * 2, none⟩) hbl).trans d0'
        have d1 := (hO2.b.cell (p := ⟨bA, off + k * 2 + 1, none⟩) hbl).trans d1'
        obtain ⟨L2, hL2⟩ : ∃ L2, L2 = ovA (ts.take k) ++ (tn.take p).map (mvN (q : Int)) := ⟨_, rfl⟩
        have HL2 := Lib.hid hL2
        rw [← hL2] at hO2 ⊢
        have hlb2 : L2.length ≤ 20000000 := by rw [hL2, List.length_append, List.length_map, List.length_take, ← HQ.out]; omega
        clear hL2
        by_cases hpl : p < tn.length
        · have hpz : (p : Int) < (tn.length : Int) := by omega
          obtain ⟨bN, oN, rfl, hbN, hcN⟩ := HNN.out (by omega)
          obtain ⟨KN, cN, a0, a1, a2, a3, a4, hI⟩ := hcN p hpl
          have a0 := (hO2.b.cell (p := ⟨bN, oN + p * 5, none⟩) hbN).trans a0
          have a1 := (hO2.b.cell (p := ⟨bN, oN + p * 5 + 1, none⟩) hbN).trans a1
          have a2 := (hO2.b.cell (p := ⟨bN, oN + p * 5 + 2, none⟩) hbN).trans a2
          have a3 := (hO2.b.cell (p := ⟨bN, oN + p * 5 + 3, none⟩) hbN).trans a3
          have a4 := (hO2.b.cell (p := ⟨bN, oN + p * 5 + 4, none⟩) hbN).trans a4
          have hks := ht2 _ (List.getElem_mem hpl)
          have HXX := Lib.hid (show tn.take (p + 1) = tn.take p ++ [tn[p]] from List.take_succ_eq_append_getElem hpl)
          clear hcN
          generalize tn[p] = x at *
          obtain ⟨xk, xn, xp, xt, ks⟩ := x
          dsimp only at a0 a1 a2 a3 a4 hI hks
          have HI := Lib.hid hI
          have HO2 := Lib.hid hO2
          have hwz : w.heap.size + 1 < W1.heap.size := hO2.r.lt
          clear hI hO2
          go_wp2
          obtain ⟨kq, hkq⟩ : ∃ kq, kq = ks.map (fun k => wrap64 (k + (q : Int))) := ⟨_, rfl⟩
          have HKQ := Lib.hid hkq
          clear hkq
          obtain ⟨W2, hW2⟩ : ∃ W2, W1.alloc (.cells #[.int .i64 xk, .int .i64 xn, .int .i64 xp, .string xt, .slice KN ks.length cN] 24) = W2 := ⟨_, rfl⟩
          have HW2 := Lib.hid (show RI w [.int .i64 kd, .int .i64 nn, .int .i64 pl, .string tx, .slice K0 n0 c0] ts k L2 (.slice V2 L2.length cV2) (.slice R k cR) ls2 W2 ∧ Bx W2 W1.heap.size 24 [.int .i64 xk, .int .i64 xn, .int .i64 xp, .string xt, .slice KN ks.length cN] ∧ W2.heap.size = W1.heap.size + 1 by
            rw [← hW2]; exact ⟨HO2.out.below (heap1 _ _), Bx.new W1 24 _, e0 _ _⟩)
          rw [hW2]
          clear hW2 a0 a1 a2 a3 a4 d0 d1
          go_loopw [11, 12] (fun lv i wr => ∃ j : Nat, j ≤ ks.length ∧ i = .int .i64 (j : Int) ∧ wr.ownsRow W2.heap.size 3 1 lv j (iv (kq.take j)) ∧ Below W2.heap.size W2 wr) (fun _ i _ => ks.length - (intOf i).toNat)
          case atStart => exact ⟨0, Nat.zero_le _, rfl, World.ownsRow_nil _ _ _ _, Below.refl _ _⟩
          case round =>
            obtain ⟨j, hj, rfl, hol, hbl2⟩ := hrel
            obtain ⟨VL, cL, rfl⟩ := own_sliceG hol
            obtain ⟨hR2, hBX, hsz0⟩ := HW2.out
            have HSZ := Lib.hid hsz0
            clear hsz0
            have hBX2 := hBX.below hbl2 hBX.lt
            have x4 := hBX2.cell 4
            simp only [List.getElem?_cons_zero, List.getElem?_cons_succ] at x4
            by_cases hjl : j < ks.length
            · have hjz : (j : Int) < (ks.length : Int) := by omega
              obtain ⟨bK, oK, rfl, hbK, hcK⟩ := HI.out (by omega)
              have hck := (((hR2.b.trans (hbl2.mono hR2.b.size)).cell (p := ⟨bK, oK + j, none⟩) hbK)).trans (hcK j hjl)
              have HTJ := Lib.hid (show kq.take (j + 1) = kq.take j ++ [wrap64 (ks[j] + (q : Int))] by
                have hjq : j < kq.length := by rw [HKQ.out, List.length_map]; exact hjl
                rw [List.take_succ_eq_append_getElem hjq]
                congr 2
                simp only [HKQ.out, List.getElem_map])
              clear hcK
              generalize ks[j] = kk at *
              go_wp2_with (first
                | (at_builtin; refine wpList_append_own _ rfl _ _ 22 rfl W2.heap.size 3 j0 (.int .i64 0) 1 8 Try.underlying22 ji jz0 jz1 jz2 rfl (by decide) _ _ _ rfl (own_belowG hol (heap1 wr _)) ⟨wr.heap.size, 0, none⟩ 1 1 [.int .i64 (wrap64 (kk + (q : Int)))] rfl rfl (blk_cells wr [.int .i64 (wrap64 (kk + (q : Int)))] 3) (one1 _) ?c3 ?c4 ?c5 ?_))
              case c3 => unfold maxLen; omega
              case c4 => omega
              case c5 => have := hbl2.size; rw [e0]; omega
              intro v' w4 hown4 hgrow4 _
              have hown5 : w4.ownsRow W2.heap.size 3 1 v' (j + 1) (iv (kq.take (j + 1))) := by rw [HTJ.out, iv_app]; exact hown4
              have hb5 : Below W2.heap.size W2 w4 := (hbl2.alloc hbl2.size _).grown hgrow4 (by have := hbl2.size; rw [e0]; omega) (fun b hb => by have := (hol.lt b hb).1; omega)
              clear hown4 hgrow4 hol
              go_wp2
              go_roundw
              case rel => exact ⟨j + 1, by omega, by go_num, hown5, hb5⟩
              case measure => simp [intOf]; omega
            · obtain rfl : j = ks.length := by omega
              have hjz : ¬ (ks.length : Int) < (ks.length : Int) := by omega
              have f4 := hBX2.frozen 4
              rw [List.take_of_length_le (by rw [HKQ.out, List.length_map]; omega)] at hol
              have hR3 := hR2.below hbl2
              go_upto_region 17 with (fail)
              refine gen_world (fun W => RI w [.int .i64 kd, .int .i64 nn, .int .i64 pl, .string tx, .slice K0 n0 c0] ts k L2 (.slice V2 L2.length cV2) (.slice R k cR) ls2 W ∧ Bx W W1.heap.size 24 [.int .i64 xk, .int .i64 xn, .int .i64 xp, .string xt, .slice VL ks.length cL] ∧ W.ownsRow W2.heap.size 3 1 (.slice VL ks.length cL) ks.length (iv kq) ∧ W2.heap.size ≤ W.heap.size) ?_ ?_
              · refine ⟨hR3.far (by omega) hBX2 ?_, hBX2.set_ 4 _, own3_set hol (by have := HSZ.out; omega), by rw [World.size_setCell]; exact hbl2.size⟩
                intro e
                have := (HO2.out.o.lt _ e).2
                omega
              clear hR3 hol x4 f4 hBX2 hBX hR2 hbl2
              rintro W ⟨hRW, hBW, hol, hsw⟩
              have b0 := hBW.cell 0
              have b1 := hBW.cell 1
              have b2 := hBW.cell 2
              have b3 := hBW.cell 3
              have b4 := hBW.cell 4
              simp only [List.getElem?_cons_zero, List.getElem?_cons_succ] at b0 b1 b2 b3 b4
              obtain ⟨KL, cL', eL, hIL, hKL, hKZ⟩ := own3 (by rw [HKQ.out, List.length_map]) hol
              obtain ⟨rfl, rfl⟩ : VL = KL ∧ cL = cL' := by cases eL; exact ⟨rfl, rfl⟩
              have hRB := hRW.below (heap1 W (.cells #[.int .i64 xk, .int .i64 xn, .int .i64 xp, .string xt, .slice VL ks.length cL] 24))
              have hKok : Kok (W.alloc (.cells #[.int .i64 xk, .int .i64 xn, .int .i64 xp, .string xt, .slice VL ks.length cL] 24)) (.slice R k cR) ⟨mvN (q : Int) ⟨xk, xn, xp, xt, ks⟩, VL, cL⟩ := by
                refine ⟨by have := hIL.below (heap1 W (.cells #[.int .i64 xk, .int .i64 xn, .int .i64 xp, .string xt, .slice VL ks.length cL] 24)); rw [HKQ.out] at this; exact this, fun b off e => ?_, hKZ⟩
                obtain ⟨h1, h2, h3⟩ := hKL b off e
                refine ⟨h1.elim fun cs hc => ⟨cs, ((heap1 W _).block b h1.lt).trans hc⟩, fun e2 => ?_⟩
                have := (HO2.out.q.lt b e2.symm).2
                have := HSZ.out
                omega
              have HRB := Lib.hid hRB
              have HKO := Lib.hid hKok
              have hoW := hRB.o
              clear hRW hRB hKok hIL hKL hKZ hol eL hBW
              go_wp2_with (first
                | (at_builtin; refine wpList_append_own _ rfl _ _ 28 rfl (w.heap.size + 2) 24 i0 (.agg #[.int .i64 0, .int .i64 0, .int .i64 0, .string ⟨#[]⟩, .slice none 0 0]) 5 64 Try.underlying28 hi hz0 hz1 hz2 rfl (by decide) _ _ _ rfl hoW ⟨W.heap.size, 0, none⟩ 1 1 [.int .i64 xk, .int .i64 xn, .int .i64 xp, .string xt, .slice VL ks.length cL] rfl rfl (blk_cells W [.int .i64 xk, .int .i64 xn, .int .i64 xp, .string xt, .slice VL ks.length cL] 24) (one5 ⟨⟨xk, xn, xp, xt, ks⟩, VL, cL⟩) ?c3 ?c4 ?c5 ?_))
              case c3 => unfold maxLen; omega
              case c4 => omega
              case c5 => have := HSZ.out; omega
              intro v' w4 hown4 hgrow4 _
              have hN4 := HRB.out.node HKO.out hgrow4 (by unfold RN.cv mvN; rw [List.length_map]; exact hown4)
              have HN4 := Lib.hid hN4
              clear hown4 hgrow4 hoW hN4
              go_wp2
              go_roundw
              case rel =>
                refine ⟨p + 1, ls2 ++ [⟨mvN (q : Int) ⟨xk, xn, xp, xt, ks⟩, VL, cL⟩], by omega, by go_num, ?_⟩
                rw [HXX.out, List.map_append, ← List.append_assoc, ← HL2.out]
                exact HN4.out
              case measure => simp [intOf]; omega
        · obtain rfl : p = tn.length := by omega
          have hpz : ¬ (tn.length : Int) < (tn.length : Int) := by omega
          have hRA := hO2.below (heap1 W1 (.cells #[.int .i64 (wrap64 (tr + (q : Int)))] 3))
          have HRA := Lib.hid hRA
          have hqW := hRA.q
          clear hRA
          go_wp2_with (first
            | (at_builtin; refine wpList_append_own_at _ rfl _ _ 22 rfl (w.heap.size + 2) 3 j0 (.int .i64 0) 1 8 Try.underlying22 ji jz0 jz1 jz2 rfl (by decide) _ _ _ rfl hqW ⟨W1.heap.size, 0, none⟩ 1 1 [.int .i64 (wrap64 (tr + (q : Int)))] rfl rfl (blk_cells W1 [.int .i64 (wrap64 (tr + (q : Int)))] 3) (one1 _) ?c3 ?c4 ?c5 ?_))
          case c3 => unfold maxLen; omega
          case c4 => omega
          case c5 => have := hO2.r.lt; omega
          intro v' w4 hown4 hgrow4 _ hat
          have hN4 := HRA.out.root hgrow4 (by rw [e0]; exact hat) (by rw [← HRT.out]; exact hown4)
          have HN4 := Lib.hid hN4
          clear hown4 hgrow4 hqW hN4 hat
          go_wp2
          go_roundw
          case rel =>
            refine ⟨k + 1, ls2, by omega, by go_num, ?_⟩
            rw [HTT.out, ovA_snoc]
            have h7 : ovA (ts.take k) ++ tn.map (mvN ((ovA (ts.take k)).length : Int)) = L2 := by rw [HL2.out, List.take_length, ← HQ.out]
            rw [h7]
            exact HN4.out
          case measure => simp [intOf]; omega
    · obtain rfl : k = m := by omega
      have hlz : ¬ (k : Int) < (k : Int) := by omega
      have hcx := hO.x.cell 4
      have hfx := hO.x.frozen 4
      simp only [List.getElem?_cons_zero, List.getElem?_cons_succ] at hcx
      have HO := Lib.hid hO
      clear hO
      go_upto_region 21 with (fail)
      refine gen_world (fun W => Bx W w.heap.size 24 [.int .i64 kd, .int .i64 nn, .int .i64 pl, .string tx, .slice R k cR] ∧ Bx W (w.heap.size + 1) 30 [.slice none 0 0, .int .i64 0] ∧ W.ownsRow (w.heap.size + 2) 24 5 (.slice V q cV) q (rl ls) ∧ Kal W (.slice none 0 0) (ls ++ [⟨⟨kd, nn, pl, tx, rts ts⟩, R, cR⟩]) ∧ Below w.heap.size w W) ?_ ?_
      · have h := HO.out
        have hne : ∀ b, Is3 W0 b → b ≠ w.heap.size := fun b h3 e => by
          subst e
          obtain ⟨cs, hc⟩ := h3
          rw [show W0.heap[w.heap.size]? = _ from h.x] at hc; simp at hc
        have hrt : (List.range k).map (rtF ts) = rts ts := by unfold rts; rw [← HM.out]
        have hq3 := h.q
        rw [hrt] at hq3
        obtain ⟨KR, cR', eR, hIR, hKR, hKZ⟩ := own3 (by unfold rts; rw [List.length_map, List.length_range]; exact HM.out) hq3
        obtain ⟨rfl, rfl⟩ : R = KR ∧ cR = cR' := by cases eR; exact ⟨rfl, rfl⟩
        have hKa : Kal W0 (.slice none 0 0) (ls ++ [⟨⟨kd, nn, pl, tx, rts ts⟩, R, cR⟩]) := fun y hy => by
          rcases List.mem_append.1 hy with hy | hy
          · exact ⟨(h.a y hy).1, fun b off e => ⟨((h.a y hy).2.1 b off e).1, by simp [Value.ownBlock]⟩, (h.a y hy).2.2⟩
          · obtain rfl : y = ⟨⟨kd, nn, pl, tx, rts ts⟩, R, cR⟩ := by simpa using hy
            exact ⟨hIR, fun b off e => ⟨(hKR b off e).1, by simp [Value.ownBlock]⟩, hKZ⟩
        refine ⟨h.x.set_ 4 _, h.r.far (by show w.heap.size + 1 ≠ w.heap.size; omega) _, ?_, hKa.keep (by rw [World.size_setCell]; exact Nat.le_refl _) fun b h3 hn => ⟨heap_setCell_other W0 _ b _ (hne b h3), hn⟩, h.b.setCell (p := ⟨w.heap.size, 4, none⟩) (Nat.le_refl _) _⟩
        have ho := h.o
        rw [← HQ.out] at ho
        exact own_set ho (by omega)
      have HE := Lib.hid HO.out.e
      clear HO hcx hfx
      rintro W ⟨hx1, hr1, ho1, ha1, hb1⟩
      have b0 := hx1.cell 0
      have b1 := hx1.cell 1
      have b2 := hx1.cell 2
      have b3 := hx1.cell 3
      have b4 := hx1.cell 4
      simp only [List.getElem?_cons_zero, List.getElem?_cons_succ] at b0 b1 b2 b3 b4
      have hzW : w.heap.size + 2 ≤ W.heap.size := by have := hr1.lt; omega
      have hoA := own_belowG ho1 (heap1 W (.cells #[.int .i64 kd, .int .i64 nn, .int .i64 pl, .string tx, .slice R k cR] 24))
      have hrl : (rts ts).length = k := by unfold rts; rw [List.length_map, List.length_range]; exact HM.out.symm
      have HRL := Lib.hid hrl
      have HH := Lib.hid (And.intro hr1 (And.intro ha1 hb1))
      clear hx1 hr1 ha1 hb1 hrl
      go_wp2_with (first
        | (at_builtin; refine wpList_append_own _ rfl _ _ 28 rfl (w.heap.size + 2) 24 i0 (.agg #[.int .i64 0, .int .i64 0, .int .i64 0, .string ⟨#[]⟩, .slice none 0 0]) 5 64 Try.underlying28 hi hz0 hz1 hz2 rfl (by decide) _ _ _ rfl hoA ⟨W.heap.size, 0, none⟩ 1 1 [.int .i64 kd, .int .i64 nn, .int .i64 pl, .string tx, .slice R k cR] rfl rfl (blk_cells W [.int .i64 kd, .int .i64 nn, .int .i64 pl, .string tx, .slice R k cR] 24) (fun u hu => by simp at hu; rcases hu with rfl | rfl | rfl | rfl | rfl <;> rfl) ?c3 ?c4 ?c5 ?_))
      case c3 => unfold maxLen; omega
      case c4 => omega
      case c5 => omega
      intro v' w4 hown4 hgrow4 _
      obtain ⟨A', c', rfl⟩ := own_sliceG hown4
      obtain ⟨hr1, ha1, hb1⟩ := HH.out
      have hnb : ∀ b, b < w.heap.size + 2 → some b ≠ (Value.slice V q cV).ownBlock := fun b hb e => by have := (hoA.lt b e.symm).1; omega
      have hr4 := (hr1.alloc _).grown hgrow4 (hnb _ (by omega))
      have ha4 := (ha1.below (heap1 _ _)).grown24 hgrow4 (own_rowT hoA)
      have hb4 := (hb1.alloc hb1.size _).grown hgrow4 (by rw [e0]; omega) (fun b hb => by have := (hoA.lt b hb).1; omega)
      have hcr0 := hr4.cell 0
      have hcr1 := hr4.cell 1
      have hfr0 := hr4.frozen 0
      have hfr1 := hr4.frozen 1
      simp only [List.getElem?_cons_zero, List.getElem?_cons_succ] at hcr0 hcr1
      have HR4 := Lib.hid hr4
      have HA4 := Lib.hid ha4
      have HB4 := Lib.hid hb4
      have HO4 := Lib.hid hown4
      clear hr1 ha1 hb1 hoA hnb hr4 ha4 hb4 hown4 hgrow4 ho1 HH
      go_wp2
      have hE3 := (HR4.out.set_ 0 (.slice A' (q + 1) c')).set_ 1 (.int .i64 (q : Int))
      have ho3 := own_set (i := 1) (u := .int .i64 (q : Int)) (own_set (i := 0) (u := .slice A' (q + 1) c') HO4.out (show w.heap.size + 1 < w.heap.size + 2 by omega)) (show w.heap.size + 1 < w.heap.size + 2 by omega)
      have hne : ∀ b, Is3 w4 b → b ≠ w.heap.size + 1 := fun b h3 e => by
        subst e
        obtain ⟨cs, hc⟩ := h3
        rw [show w4.heap[w.heap.size + 1]? = _ from HR4.out] at hc; simp at hc
      have hne2 : ∀ b, Is3 (w4.setCell ⟨w.heap.size + 1, 0, none⟩ (.slice A' (q + 1) c')) b → b ≠ w.heap.size + 1 := fun b h3 e => by
        subst e
        obtain ⟨cs, hc⟩ := h3
        rw [show (w4.setCell ⟨w.heap.size + 1, 0, none⟩ (.slice A' (q + 1) c')).heap[w.heap.size + 1]? = _ from HR4.out.set_ 0 _] at hc; simp at hc
      have ha3 := (HA4.out.keep (w' := w4.setCell ⟨w.heap.size + 1, 0, none⟩ (.slice A' (q + 1) c')) (by rw [World.size_setCell]; exact Nat.le_refl _) fun b h3 hn => ⟨heap_setCell_other w4 _ b _ (hne b h3), hn⟩).keep (w' := (w4.setCell ⟨w.heap.size + 1, 0, none⟩ (.slice A' (q + 1) c')).setCell ⟨w.heap.size + 1, 1, none⟩ (.int .i64 (q : Int))) (by simp only [World.size_setCell]; exact Nat.le_refl _) fun b h3 hn => ⟨heap_setCell_other _ _ b _ (hne2 b h3), hn⟩
      have hb3 := (HB4.out.setCell (p := ⟨w.heap.size + 1, 0, none⟩) (by show _ ≤ w.heap.size + 1; omega) (.slice A' (q + 1) c')).setCell (p := ⟨w.heap.size + 1, 1, none⟩) (by show _ ≤ w.heap.size + 1; omega) (.int .i64 (q : Int))
      clear hne hne2
      generalize (w4.setCell ⟨w.heap.size + 1, 0, none⟩ (.slice A' (q + 1) c')).setCell ⟨w.heap.size + 1, 1, none⟩ (.int .i64 (q : Int)) = W3 at *
      have hr0 := hE3.cell 0
      have hr1 := hE3.cell 1
      simp only [List.set_cons_zero, List.set_cons_succ, List.getElem?_cons_zero, List.getElem?_cons_succ] at hr0 hr1
      have hall : ts.take k = ts := List.take_of_length_le (by rw [← HM.out]; omega)
      have hov : ls.map RN.nd = ovA ts := by rw [HE.out, hall]
      have hql : q = (ovA ts).length := by rw [HQ.out, hall]
      have hlen : q + 1 = (ls ++ [(⟨⟨kd, nn, pl, tx, rts ts⟩, R, cR⟩ : RN)]).length := by
        rw [List.length_append, hql, ← hov, List.length_map]; rfl
      have ho5 : W3.ownsRow (w.heap.size + 2) 24 5 (.slice A' (q + 1) c') (q + 1) (rl (ls ++ [⟨⟨kd, nn, pl, tx, rts ts⟩, R, cR⟩])) := by
        rw [rl_app, show rl [(⟨⟨kd, nn, pl, tx, rts ts⟩, R, cR⟩ : RN)] = [.int .i64 kd, .int .i64 nn, .int .i64 pl, .string tx, .slice R k cR] by show RN.cv _ ++ [] = _; unfold RN.cv; rw [HRL.out]; rfl]
        exact ho3
      obtain ⟨A2, c2, e2, hN2, hc2, hkn⟩ := nds_rn hlen ho5 ha3
      cases e2
      have hmap : (ls ++ [(⟨⟨kd, nn, pl, tx, rts ts⟩, R, cR⟩ : RN)]).map RN.nd = ovL kd nn pl tx ts := by rw [List.map_append, hov]; rfl
      rw [hmap] at hN2
      have hll : (ovL kd nn pl tx ts).length = q + 1 := by rw [← hmap, List.length_map]; exact hlen.symm
      exact bodyPost_ret (v := .agg #[.slice A' (q + 1) c', .int .i64 (q : Int)]) (by simp [results, Try.f11, go_sem, hr0, hr1]) rfl ⟨A', c', by rw [hll, ← hql], hN2, by rw [hll]; exact hc2, hb3, by rw [hll]; exact hkn⟩
end Go.Proofs.Ytcnmkmdedeiffaa
