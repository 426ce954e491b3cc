/- PROVED here: the contract of moved. No condition but those in each theorem's own head. -/
import Derived.Test.YtcnmkmdedeiffaaF
namespace Go.Proofs.Ytcnmkmdedeiffaa
open Go Go.RowKit

set_option maxRecDepth 100000 in
set_option maxHeartbeats 1500000 in
theorem moved_any (A : Option Addr) (c n : Nat) (l : List Nd) (d : Int) (w : World) (hN : Nds w A l) (hn : n = l.length) (hl : n ≤ 10000000) (hk : ∀ x ∈ l, x.ks.length ≤ 4000) : Calls Try.prog 26 #[.slice A n c, .int .i64 d] w (MvPost d l n w) := by
  have HN := Lib.hid hN
  have HL := Lib.hid hn
  have HK := Lib.hid hk
  clear hN hn hk
  have hmk := fun w' => make28 n (by omega) w'
  have e0 : ∀ (w' : World) (o : Obj), (w'.alloc o).heap.size = w'.heap.size + 1 := fun w' o => World.size_alloc w' o
  go_enter Try.func26, Try.ntmps26
  go_wp2
  clear hmk
  go_loopw [16] (fun i wr => ∃ (p : Nat) (g : Nat → Nat), p ≤ n ∧ i = .int .i64 (p : Int) ∧ MvI d l n p g w wr) (fun i _ => n - (intOf i).toNat)
  case atStart =>
    refine ⟨0, fun _ => 0, Nat.zero_le _, rfl, ?_, fun j hj => absurd hj (Nat.not_lt_zero j), heap1 _ _⟩
    rw [made28]
    exact (show Nb _ _ n _ from World.alloc_heap_new _ _).congr fun j f _ _ => (if_neg (Nat.not_lt_zero j)).symm
  case round =>
    obtain ⟨p, g, hp, rfl, hM⟩ := hrel
    obtain ⟨W0, rfl⟩ : ∃ W0, W0 = wr := ⟨_, rfl⟩
    by_cases hlt : p < n
    · have hlz : (p : Int) < (n : Int) := by omega
      have hpl : p < l.length := by rw [← HL.out]; exact hlt
      obtain ⟨bA, off, rfl, hbl, hc⟩ := (HN.out.below hM.b) (by omega)
      obtain ⟨K, ck, c0, c1, c2, c3, c4, hI⟩ := hc p hpl
      have hks : l[p].ks.length ≤ 4000 := HK.out _ (List.getElem_mem _)
      have HX := Lib.hid (nth_eq hpl)
      clear hc
      generalize l[p] = x at *
      obtain ⟨kd, nn, pl, tx, ks⟩ := x
      dsimp only at c0 c1 c2 c3 c4 hI hks
      have hmk := fun w' => make22 ks.length (by omega) w'
      have hz := hM.n.lt
      go_wp2
      clear hmk
      go_loopw [28] (fun i wr2 => ∃ j : Nat, j ≤ ks.length ∧ i = .int .i64 (j : Int) ∧ Bx wr2 W0.heap.size 24 [.int .i64 kd, .int .i64 nn, .int .i64 pl, .string tx, .slice K ks.length ck] ∧ Ib wr2 (W0.heap.size + 1) ks.length (fun i => if i < j then wrap64 (ks.getD i 0 + d) else 0) ∧ Below W0.heap.size W0 wr2) (fun i _ => ks.length - (intOf i).toNat)
      case atStart =>
        refine ⟨0, Nat.zero_le _, rfl, (Bx.new W0 24 _).alloc _, ?_, (heap1 W0 _).alloc (by rw [e0]; omega) _⟩
        have := World.alloc_heap_new (W0.alloc (.cells #[.int .i64 kd, .int .i64 nn, .int .i64 pl, .string tx, .slice K ks.length ck] 24)) (.cells (mkI ks.length fun _ => 0) 3)
        rw [e0] at this
        exact (show Ib _ _ _ _ from this).congr fun i _ => (if_neg (Nat.not_lt_zero i)).symm
      case round =>
        obtain ⟨j, hj, rfl, hB, hG2, hb2⟩ := hrel
        by_cases hjl : j < ks.length
        · have hjz : (j : Int) < (ks.length : Int) := by omega
          obtain ⟨bK, oK, rfl, hbK, hcK⟩ := hI (by omega)
          have hck := (hb2.cell (p := ⟨bK, oK + j, none⟩) hbK).trans (hcK j hjl)
          have hgd : ks.getD j 0 = ks[j] := by simp [List.getD, hjl]
          rw [← hgd] at hck
          have hcg := hG2.cell hjl
          have hfg := hG2.frozen j
          clear hcK hgd
          generalize hkk : ks.getD j 0 = kk at *
          go_wp2
          go_roundw
          case rel =>
            refine ⟨j + 1, by omega, by go_num, hB.far (by show W0.heap.size ≠ W0.heap.size + 1; omega) _, ?_, hb2.setCell (p := ⟨W0.heap.size + 1, j, none⟩) (by show _ ≤ W0.heap.size + 1; omega) _⟩
            refine (hG2.set_ j _).congr fun i hi => ?_
            by_cases e : i = j
            · subst e; rw [if_pos rfl, if_pos (by omega), hkk]
            · rw [if_neg e]
              by_cases e2 : i < j
              · rw [if_pos e2, if_pos (by omega)]
              · rw [if_neg e2, if_neg (by omega)]
          case measure => simp [intOf]; omega
        · obtain rfl : j = ks.length := by omega
          have hjz : ¬ (ks.length : Int) < (ks.length : Int) := by omega
          have hf4 := hB.frozen 4
          have hc4 := hB.cell 4
          simp only [List.getElem?_cons_zero, List.getElem?_cons_succ] at hc4
          go_upto_region 12 with (fail)
          refine gen_world (fun W => Bx W W0.heap.size 24 [.int .i64 kd, .int .i64 nn, .int .i64 pl, .string tx, .slice (some ⟨W0.heap.size + 1, 0, none⟩) ks.length ks.length] ∧ Ib W (W0.heap.size + 1) ks.length (fun i => if i < ks.length then wrap64 (ks.getD i 0 + d) else 0) ∧ Below W0.heap.size W0 W)
            ⟨hB.set_ 4 _, hG2.far (by show W0.heap.size + 1 ≠ W0.heap.size; omega) _, hb2.setCell (p := ⟨W0.heap.size, 4, none⟩) (Nat.le_refl _) _⟩ ?_
          clear hB hG2 hb2 hf4 hc4
          rintro W ⟨hB, hG2, hb2⟩
          have hN2 := hM.n.same (hb2.block _ hz)
          have b0 := hB.cell 0
          have b1 := hB.cell 1
          have b2 := hB.cell 2
          have b3 := hB.cell 3
          have b4 := hB.cell 4
          simp only [List.getElem?_cons_zero, List.getElem?_cons_succ] at b0 b1 b2 b3 b4
          have n0 := hN2.cell hlt (show 0 < 5 by omega)
          have n1 := hN2.cell hlt (show 1 < 5 by omega)
          have n2 := hN2.cell hlt (show 2 < 5 by omega)
          have n3 := hN2.cell hlt (show 3 < 5 by omega)
          have n4 := hN2.cell hlt (show 4 < 5 by omega)
          rw [Nat.add_zero] at n0
          have g0 := hN2.frozen (p * 5)
          have g1 := hN2.frozen (p * 5 + 1)
          have g2 := hN2.frozen (p * 5 + 2)
          have g3 := hN2.frozen (p * 5 + 3)
          have g4 := hN2.frozen (p * 5 + 4)
          generalize (if p < p then ((mvA d l g p).cv)[0]! else zN[0]!) = o0 at n0
          generalize (if p < p then ((mvA d l g p).cv)[1]! else zN[1]!) = o1 at n1
          generalize (if p < p then ((mvA d l g p).cv)[2]! else zN[2]!) = o2 at n2
          generalize (if p < p then ((mvA d l g p).cv)[3]! else zN[3]!) = o3 at n3
          generalize (if p < p then ((mvA d l g p).cv)[4]! else zN[4]!) = o4 at n4
          have HM := Lib.hid hM
          have HG2 := Lib.hid hG2
          have HB2 := Lib.hid hb2
          clear hM hG2 hb2 hB hN2
          go_wp2
          go_roundw
          case rel =>
            refine ⟨p + 1, _, by omega, by go_num, HM.out.step HB2.out hz (kb := W0.heap.size + 1) (by omega) hlt ?_ _ _ _ _ _ ?_⟩
            · rw [HX.out]
              refine HG2.out.congr fun i hi => ?_
              rw [if_pos hi]
              show _ = (ks.map _).getD i 0
              have h7 : i < (ks.map fun k => wrap64 (k + d)).length := by simpa using hi
              simp [List.getD, hi]
            · rw [HX.out]; unfold AN.cv mvN; simp
          case measure => simp [intOf]; omega
    · obtain rfl : p = n := by omega
      have hlz : ¬ (p : Int) < (p : Int) := by omega
      have HP := Lib.hid (hM.post HL.out hl)
      clear hM
      go_wp2
      go_ret
      exact HP.out
end Go.Proofs.Ytcnmkmdedeiffaa
