/- PROVED here: the contract of the document's Sub, where it answers a tree. No condition but those in each theorem's own head. -/
import Derived.Test.YtcnmkmdedeiffaaTe
import Derived.Test.YtcnmkmdedeiffaaZ
namespace Go.Proofs.Ytcnmkmdedeiffaa
open Go Go.RowKit

/-- a cell of a later block of another kind is set -/
theorem RB.far {w : World} {tv : List Value} {L : List Nd} {v : Value} {ls : List RN} {wr : World} (h : RB w tv L v ls wr) {k f : Nat} {u : Value} (hk : w.heap.size + 1 < k) {cs : Array Value} (hc : wr.heap[k]? = some (.cells cs 24 (0, 0))) (hv : v.ownBlock ≠ some k) : RB w tv L v ls (wr.setCell ⟨k, f, none⟩ u) := by
  refine ⟨h.t.far (by show w.heap.size ≠ k; omega) _, h.r.far (by show w.heap.size + 1 ≠ k; omega) _, own_keep h.o fun g hg => heap_setCell_other wr _ g _ (fun e => hv (by rw [hg]; exact congrArg some e)), h.a.keep (by rw [World.size_setCell]; exact Nat.le_refl _) fun b h3 hn => ⟨heap_setCell_other wr _ b _ (fun e => ?_), hn⟩, h.e, h.b.setCell (p := ⟨k, f, none⟩) (by show _ ≤ k; omega) _⟩
  have e' : b = k := e
  subst e'
  obtain ⟨cs', hc'⟩ := h3
  rw [hc] at hc'; simp at hc'
theorem cut_snoc (l : List Nd) (s i : Nat) (hs : s ≤ i) (hi : i < l.length) : (l.take (i + 1)).drop s = (l.take i).drop s ++ [l[i]] := by
  rw [List.take_succ_eq_append_getElem hi, List.drop_append_of_le_length (by rw [List.length_take]; omega)]
set_option maxRecDepth 100000 in
set_option maxHeartbeats 1500000 in
theorem rsub_yes (A : Option Addr) (c n : Nat) (l : List Nd) (r : Int) (p : Nat) (w : World) (hN : Nds w A l) (hn : n = l.length) (hk : ∀ x ∈ l, x.ks.length ≤ 4000) (h : Snd l r) (hp : p < n) : Calls Try.prog 25 #[.agg #[.slice A n c, .int .i64 r], .int .i64 (p : Int)] w (RPost (subL l p) (subR l p : Int) w) := by
  obtain ⟨i0, hi, hz0, hz1, hz2⟩ := info_parts info24
  obtain ⟨j0, ji, jz0, jz1, jz2⟩ := info_parts info3
  have e0 : ∀ (w' : World) (o : Obj), (w'.alloc o).heap.size = w'.heap.size + 1 := fun w' o => World.size_alloc w' o
  obtain ⟨W, hW⟩ : ∃ W, (w.alloc (.cells #[.slice A n c, .int .i64 r] 30)).alloc (.cells #[.slice none 0 0, .int .i64 0] 30) = W := ⟨_, rfl⟩
  have hb : Below w.heap.size w W := by rw [← hW]; exact (heap1 _ _).alloc (by rw [e0]; omega) _
  have hsz : W.heap.size = w.heap.size + 1 + 1 := by rw [← hW, e0, e0]
  have hB1 : Bx W w.heap.size 30 [.slice A n c, .int .i64 r] := by rw [← hW]; exact (Bx.new w 30 _).alloc _
  have hB2 : Bx W (w.heap.size + 1) 30 [.slice none 0 0, .int .i64 0] := by
    rw [← hW]
    have := Bx.new (w.alloc (.cells #[.slice A n c, .int .i64 r] 30)) 30 [.slice none 0 0, .int .i64 0]
    rw [e0] at this; exact this
  have HS := Lib.hid (rsound_any A c n l r W (hN.below hb) hn hk)
  rw [sndB_true h] at HS
  have hsn := snd_iff.1 h
  have hkin : Kin l n := by rw [hn]; exact hsn.2.1
  have hn4 : n ≤ 4000 := by rw [hn]; exact hsn.1.2.1
  have hbg : bgA l p = some (stF l l.length p) := by
    obtain ⟨b, hS⟩ := h
    rw [bg_of hS.2.2.2.1 p (by rw [← hn]; exact hp), stF_is hS.2.2.2.1 p (by rw [← hn]; exact hp)]
  have hsp : stF l l.length p ≤ p := bgA_le l p _ hbg
  have HG := Lib.hid (fun (w' : World) (hN' : Nds w' A l) => begins_any A c n l hn hn4 hk hkin p hp w' hN')
  rw [hbg] at HG
  have hsL : subL l p = ((l.take (p + 1)).drop (stF l l.length p)).map (mvN (-(stF l l.length p : Int))) := rfl
  have hsR : subR l p = p - stF l l.length p := rfl
  obtain ⟨LL, hLL⟩ : ∃ LL, LL = subL l p := ⟨_, rfl⟩
  obtain ⟨RR, hRR⟩ : ∃ RR, RR = subR l p := ⟨_, rfl⟩
  rw [← hLL, ← hRR]
  rw [← hLL] at hsL
  rw [← hRR] at hsR
  clear hLL hRR
  generalize stF l l.length p = s at *
  have HSL := Lib.hid hsL
  have hRs : (p : Int) - (s : Int) = (RR : Int) := by omega
  have HRS := Lib.hid hRs
  have hRb : RR ≤ 4000 := by omega
  have HN := Lib.hid hN
  have HL := Lib.hid hn
  have HK := Lib.hid hk
  clear hN hn hk h hsL hsR hRs hbg hsn hkin
  have hct0 := hB1.cell 0
  have hct1 := hB1.cell 1
  simp only [List.getElem?_cons_zero, List.getElem?_cons_succ] at hct0 hct1
  have hq0 : ¬ (p : Int) < 0 := by omega
  have hq1 : ¬ (n : Int) ≤ (p : Int) := by omega
  go_enter Try.func25, Try.ntmps25
  go_wp2_with (go_at_call 16; refine HS.out.mono ?_)
  clear HS
  rintro e w1 ⟨rfl, hb1⟩
  have hE1 := hB1.below hb1 (by omega)
  have hE2 := hB2.below hb1 (by omega)
  have hb2 := bt hb hb1
  have hz3 : w.heap.size + 2 ≤ w1.heap.size := by have := hb1.size; omega
  clear hct0 hct1 hB1 hB2 hb hb1 hW hsz
  have hct0 := hE1.cell 0
  simp only [List.getElem?_cons_zero] at hct0
  have HGW := Lib.hid (HG.out w1 (HN.out.below hb2))
  have hbgI : bgI (some s) = (s : Int) := rfl
  rw [hbgI] at HGW
  clear HG hbgI W
  go_wp2_with (go_at_call 28; refine HGW.out.mono ?_)
  clear HGW
  rintro e w2 ⟨rfl, hb3⟩
  have hF1 := hE1.below hb3 (by omega)
  have hF2 := hE2.below hb3 (by omega)
  have hb4 := bt hb2 hb3
  clear hct0 hE1 hE2 hb2 hb3 hz3 w1 hq0 hq1
  go_wp2
  go_loopw [7, 8] (fun v i wr => ∃ (k : Nat) (ls : List RN), s ≤ k ∧ k ≤ p + 1 ∧ i = .int .i64 (k : Int) ∧ RB w [.slice A n c, .int .i64 r] (((l.take k).drop s).map (mvN (-(s : Int)))) v ls wr) (fun _ i _ => p + 1 - (intOf i).toNat)
  case atStart =>
    have hz : (l.take s).drop s = [] := List.drop_of_length_le (by rw [List.length_take]; omega)
    refine ⟨s, [], Nat.le_refl _, by omega, rfl, hF1, hF2, ?_, fun x hx => (by cases hx), ?_, hb4⟩
    · rw [hz]; exact World.ownsRow_nil _ _ _ _
    · rw [hz]; rfl
  case round =>
    clear hF1 hF2 hb4
    obtain ⟨k, ls, hsk, hk, rfl, hO⟩ := hrel
    obtain ⟨V, cV, rfl⟩ := own_sliceG hO.o
    obtain ⟨W1, rfl⟩ : ∃ W1, W1 = wr := ⟨_, rfl⟩
    obtain ⟨L, hL⟩ : ∃ L, L = ((l.take k).drop s).map (mvN (-(s : Int))) := ⟨_, rfl⟩
    have HLL := Lib.hid hL
    rw [← hL] at hO ⊢
    have hlb : L.length ≤ 10000000 := by rw [hL, List.length_map, List.length_drop, List.length_take]; omega
    clear hL
    have d0 := hO.t.cell 0
    simp only [List.getElem?_cons_zero] at d0
    have hwz : w.heap.size + 1 < W1.heap.size := hO.r.lt
    by_cases hlt : k ≤ p
    · have hlz : (k : Int) ≤ (p : Int) := by omega
      have hkn : k < n := by omega
      have hkl : k < l.length := by rw [← HL.out]; exact hkn
      obtain ⟨bA, off, rfl, hbl, hc⟩ := HN.out (by omega)
      obtain ⟨K, ck, a0, a1, a2, a3, a4, hI⟩ := hc k hkl
      have hks := HK.out _ (List.getElem_mem hkl)
      have HTT := Lib.hid (cut_snoc l s k hsk hkl)
      clear hc
      generalize l[k] = x at *
      obtain ⟨xk, xn, xp, xt, ks⟩ := x
      dsimp only at a0 a1 a2 a3 a4 hI hks
      have a0 := (hO.b.cell (p := ⟨bA, off + k * 5, none⟩) hbl).trans a0
      have a1 := (hO.b.cell (p := ⟨bA, off + k * 5 + 1, none⟩) hbl).trans a1
      have a2 := (hO.b.cell (p := ⟨bA, off + k * 5 + 2, none⟩) hbl).trans a2
      have a3 := (hO.b.cell (p := ⟨bA, off + k * 5 + 3, none⟩) hbl).trans a3
      have a4 := (hO.b.cell (p := ⟨bA, off + k * 5 + 4, none⟩) hbl).trans a4
      have HI := Lib.hid hI
      have HO := Lib.hid hO
      clear hI hO
      go_wp2
      obtain ⟨kq, hkq⟩ : ∃ kq, kq = ks.map (fun k => wrap64 (k + -(s : Int))) := ⟨_, rfl⟩
      have HKQ := Lib.hid hkq
      clear hkq
      obtain ⟨W2, hW2⟩ : ∃ W2, W1.alloc (.cells #[.int .i64 xk, .int .i64 xn, .int .i64 xp, .string xt, .slice K ks.length ck] 24) = W2 := ⟨_, rfl⟩
      have HW2 := Lib.hid (show RB w [.slice (some ⟨bA, off, none⟩) n c, .int .i64 r] L (.slice V L.length cV) ls W2 ∧ Bx W2 W1.heap.size 24 [.int .i64 xk, .int .i64 xn, .int .i64 xp, .string xt, .slice K ks.length ck] ∧ W2.heap.size = W1.heap.size + 1 by
        rw [← hW2]; exact ⟨HO.out.below (heap1 _ _), Bx.new W1 24 _, e0 _ _⟩)
      rw [hW2]
      clear hW2 a0 a1 a2 a3 a4 d0
      go_loopw [10, 11] (fun lv i wr => ∃ j : Nat, j ≤ ks.length ∧ i = .int .i64 (j : Int) ∧ wr.ownsRow W2.heap.size 3 1 lv j (iv (kq.take j)) ∧ Below W2.heap.size W2 wr) (fun _ i _ => ks.length - (intOf i).toNat)
      case atStart => exact ⟨0, Nat.zero_le _, rfl, World.ownsRow_nil _ _ _ _, Below.refl _ _⟩
      case round =>
        obtain ⟨j, hj, rfl, hol, hbl2⟩ := hrel
        obtain ⟨VL, cL, rfl⟩ := own_sliceG hol
        obtain ⟨hR2, hBX, hsz0⟩ := HW2.out
        have HSZ := Lib.hid hsz0
        clear hsz0
        have hBX2 := hBX.below hbl2 hBX.lt
        have x4 := hBX2.cell 4
        simp only [List.getElem?_cons_zero, List.getElem?_cons_succ] at x4
        by_cases hjl : j < ks.length
        · have hjz : (j : Int) < (ks.length : Int) := by omega
          obtain ⟨bK, oK, rfl, hbK, hcK⟩ := HI.out (by omega)
          have hck := (((hR2.b.trans (hbl2.mono hR2.b.size)).cell (p := ⟨bK, oK + j, none⟩) hbK)).trans (hcK j hjl)
          have HTJ := Lib.hid (show kq.take (j + 1) = kq.take j ++ [wrap64 (ks[j] - (s : Int))] by
            have hjq : j < kq.length := by rw [HKQ.out, List.length_map]; exact hjl
            rw [List.take_succ_eq_append_getElem hjq]
            congr 2
            simp only [HKQ.out, List.getElem_map, Int.sub_eq_add_neg])
          clear hcK
          generalize ks[j] = kk at *
          go_wp2_with (first
            | (at_builtin; refine wpList_append_own _ rfl _ _ 22 rfl W2.heap.size 3 j0 (.int .i64 0) 1 8 Try.underlying22 ji jz0 jz1 jz2 rfl (by decide) _ _ _ rfl (own_belowG hol (heap1 wr _)) ⟨wr.heap.size, 0, none⟩ 1 1 [.int .i64 (wrap64 (kk - (s : Int)))] rfl rfl (blk_cells wr [.int .i64 (wrap64 (kk - (s : Int)))] 3) (one1 _) ?c3 ?c4 ?c5 ?_))
          case c3 => unfold maxLen; omega
          case c4 => omega
          case c5 => have := hbl2.size; rw [e0]; omega
          intro v' w4 hown4 hgrow4 _
          have hown5 : w4.ownsRow W2.heap.size 3 1 v' (j + 1) (iv (kq.take (j + 1))) := by rw [HTJ.out, iv_app]; exact hown4
          have hb5 : Below W2.heap.size W2 w4 := (hbl2.alloc hbl2.size _).grown hgrow4 (by have := hbl2.size; rw [e0]; omega) (fun b hb => by have := (hol.lt b hb).1; omega)
          clear hown4 hgrow4 hol
          go_wp2
          go_roundw
          case rel => exact ⟨j + 1, by omega, by go_num, hown5, hb5⟩
          case measure => simp [intOf]; omega
        · obtain rfl : j = ks.length := by omega
          have hjz : ¬ (ks.length : Int) < (ks.length : Int) := by omega
          have f4 := hBX2.frozen 4
          rw [List.take_of_length_le (by rw [HKQ.out, List.length_map]; omega)] at hol
          have hR3 := hR2.below hbl2
          go_upto_region 16 with (fail)
          refine gen_world (fun W => RB w [.slice (some ⟨bA, off, none⟩) n c, .int .i64 r] L (.slice V L.length cV) ls W ∧ Bx W W1.heap.size 24 [.int .i64 xk, .int .i64 xn, .int .i64 xp, .string xt, .slice VL ks.length cL] ∧ W.ownsRow W2.heap.size 3 1 (.slice VL ks.length cL) ks.length (iv kq) ∧ W2.heap.size ≤ W.heap.size) ?_ ?_
          · refine ⟨hR3.far (by omega) hBX2 ?_, hBX2.set_ 4 _, own3_set hol (by have := HSZ.out; omega), by rw [World.size_setCell]; exact hbl2.size⟩
            intro e
            have := (HO.out.o.lt _ e).2
            omega
          clear hR3 hol x4 f4 hBX2 hBX hR2 hbl2
          rintro W ⟨hRW, hBW, hol, hsw⟩
          have b0 := hBW.cell 0
          have b1 := hBW.cell 1
          have b2 := hBW.cell 2
          have b3 := hBW.cell 3
          have b4 := hBW.cell 4
          simp only [List.getElem?_cons_zero, List.getElem?_cons_succ] at b0 b1 b2 b3 b4
          obtain ⟨KL, cL', eL, hIL, hKL, hKZ⟩ := own3 (by rw [HKQ.out, List.length_map]) hol
          obtain ⟨rfl, rfl⟩ : VL = KL ∧ cL = cL' := by cases eL; exact ⟨rfl, rfl⟩
          have hRB := hRW.below (heap1 W (.cells #[.int .i64 xk, .int .i64 xn, .int .i64 xp, .string xt, .slice VL ks.length cL] 24))
          have hKok : Kok (W.alloc (.cells #[.int .i64 xk, .int .i64 xn, .int .i64 xp, .string xt, .slice VL ks.length cL] 24)) (.slice none 0 0) ⟨mvN (-(s : Int)) ⟨xk, xn, xp, xt, ks⟩, VL, cL⟩ := by
            refine ⟨by have := hIL.below (heap1 W (.cells #[.int .i64 xk, .int .i64 xn, .int .i64 xp, .string xt, .slice VL ks.length cL] 24)); rw [HKQ.out] at this; exact this, fun b off e => ?_, hKZ⟩
            obtain ⟨h1, h2, h3⟩ := hKL b off e
            exact ⟨h1.elim fun cs hc => ⟨cs, ((heap1 W _).block b h1.lt).trans hc⟩, by simp [Value.ownBlock]⟩
          have HRB := Lib.hid hRB
          have HKO := Lib.hid hKok
          have hoW := hRB.o
          clear hRW hRB hKok hIL hKL hKZ hol eL hBW
          go_wp2_with (first
            | (at_builtin; refine wpList_append_own _ rfl _ _ 28 rfl (w.heap.size + 2) 24 i0 (.agg #[.int .i64 0, .int .i64 0, .int .i64 0, .string ⟨#[]⟩, .slice none 0 0]) 5 64 Try.underlying28 hi hz0 hz1 hz2 rfl (by decide) _ _ _ rfl hoW ⟨W.heap.size, 0, none⟩ 1 1 [.int .i64 xk, .int .i64 xn, .int .i64 xp, .string xt, .slice VL ks.length cL] rfl rfl (blk_cells W [.int .i64 xk, .int .i64 xn, .int .i64 xp, .string xt, .slice VL ks.length cL] 24) (one5 ⟨⟨xk, xn, xp, xt, ks⟩, VL, cL⟩) ?c3 ?c4 ?c5 ?_))
          case c3 => unfold maxLen; omega
          case c4 => omega
          case c5 => have := HSZ.out; first | omega | (rw [e0]; omega)
          intro v' w4 hown4 hgrow4 _
          have hN4 := HRB.out.node HKO.out hgrow4 (by unfold RN.cv mvN; rw [List.length_map]; exact hown4)
          have HN4 := Lib.hid hN4
          clear hown4 hgrow4 hoW hN4
          go_wp2
          go_roundw
          case rel =>
            refine ⟨k + 1, ls ++ [⟨mvN (-(s : Int)) ⟨xk, xn, xp, xt, ks⟩, VL, cL⟩], by omega, by omega, by go_num, ?_⟩
            rw [HTT.out, List.map_append, ← HLL.out]
            exact HN4.out
          case measure => simp [intOf]; omega
    · obtain rfl : k = p + 1 := by omega
      have hlz : ¬ ((p + 1 : Nat) : Int) ≤ (p : Int) := by omega
      have hcr0 := hO.r.cell 0
      have hcr1 := hO.r.cell 1
      have hfr0 := hO.r.frozen 0
      have hfr1 := hO.r.frozen 1
      simp only [List.getElem?_cons_zero, List.getElem?_cons_succ] at hcr0 hcr1
      have HQL := Lib.hid (show L = LL by rw [HLL.out, HSL.out])
      obtain ⟨q, hq⟩ : ∃ q, q = L.length := ⟨_, rfl⟩
      rw [← hq] at hlb ⊢
      have HQ := Lib.hid hq
      have HO := Lib.hid hO
      clear hO hq
      have hRs := HRS.out
      go_wp2
      clear hRs
      have h := HO.out
      rw [← HQ.out] at h
      have ho0 := h.o
      rw [← HQ.out] at ho0
      have hE3 := (h.r.set_ 0 (.slice V q cV)).set_ 1 (.int .i64 (RR : Int))
      have ho3 := own_set (i := 1) (u := .int .i64 (RR : Int)) (own_set (i := 0) (u := .slice V q cV) ho0 (show w.heap.size + 1 < w.heap.size + 2 by omega)) (show w.heap.size + 1 < w.heap.size + 2 by omega)
      have hne : ∀ b, Is3 W1 b → b ≠ w.heap.size + 1 := fun b h3 e => by
        subst e
        obtain ⟨cs, hc⟩ := h3
        rw [show W1.heap[w.heap.size + 1]? = _ from h.r] at hc; simp at hc
      have hne2 : ∀ b, Is3 (W1.setCell ⟨w.heap.size + 1, 0, none⟩ (.slice V q cV)) b → b ≠ w.heap.size + 1 := fun b h3 e => by
        subst e
        obtain ⟨cs, hc⟩ := h3
        rw [show (W1.setCell ⟨w.heap.size + 1, 0, none⟩ (.slice V q cV)).heap[w.heap.size + 1]? = _ from h.r.set_ 0 _] at hc; simp at hc
      have ha3 := (h.a.keep (w' := W1.setCell ⟨w.heap.size + 1, 0, none⟩ (.slice V q cV)) (by rw [World.size_setCell]; exact Nat.le_refl _) fun b h3 hn => ⟨heap_setCell_other W1 _ b _ (hne b h3), hn⟩).keep (w' := (W1.setCell ⟨w.heap.size + 1, 0, none⟩ (.slice V q cV)).setCell ⟨w.heap.size + 1, 1, none⟩ (.int .i64 (RR : Int))) (by simp only [World.size_setCell]; exact Nat.le_refl _) fun b h3 hn => ⟨heap_setCell_other _ _ b _ (hne2 b h3), hn⟩
      have hb3 := (h.b.setCell (p := ⟨w.heap.size + 1, 0, none⟩) (by show _ ≤ w.heap.size + 1; omega) (.slice V q cV)).setCell (p := ⟨w.heap.size + 1, 1, none⟩) (by show _ ≤ w.heap.size + 1; omega) (.int .i64 (RR : Int))
      clear hne hne2
      generalize (W1.setCell ⟨w.heap.size + 1, 0, none⟩ (.slice V q cV)).setCell ⟨w.heap.size + 1, 1, none⟩ (.int .i64 (RR : Int)) = W3 at *
      have hr0 := hE3.cell 0
      have hr1 := hE3.cell 1
      simp only [List.set_cons_zero, List.set_cons_succ, List.getElem?_cons_zero, List.getElem?_cons_succ] at hr0 hr1
      obtain ⟨A2, c2, e2, hN2, hc2, hkn2⟩ := nds_rn (by rw [HQ.out, ← h.e, List.length_map]) ho3 ha3
      cases e2
      rw [h.e, HQL.out] at hN2
      have hll : LL.length = q := by rw [HQ.out, HQL.out]
      exact bodyPost_ret (v := .agg #[.slice V q cV, .int .i64 (RR : Int)]) (by simp [results, Try.f25, go_sem, hr0, hr1]) rfl ⟨V, cV, by rw [hll], hN2, by rw [hll]; exact hc2, hb3, by rw [hll]; exact hkn2⟩
end Go.Proofs.Ytcnmkmdedeiffaa
