/- PROVED here: the contract of the document's Depth. No condition but those in each theorem's own head. -/
import Derived.Test.YtcnmkmdedeiffaaTd
namespace Go.Proofs.Ytcnmkmdedeiffaa
open Go Go.RowKit

theorem bdrew {k : Nat} {w a : World} (h : Below k w a) : Below k w a.drew := ⟨h.1, h.2, h.3, h.4, h.5⟩
set_option maxRecDepth 100000 in
set_option maxHeartbeats 1500000 in
theorem rdepth_no (A : Option Addr) (c n : Nat) (l : List Nd) (r : Int) (w : World) (hN : Nds w A l) (hn : n = l.length) (hk : ∀ x ∈ l, x.ks.length ≤ 4000) (h : ¬ Snd l r) : Calls Try.prog 20 #[.agg #[.slice A n c, .int .i64 r]] w (IPost 0 w) := by
  have hb : Below w.heap.size w (w.alloc (.cells #[.slice A n c, .int .i64 r] 30)) := heap1 _ _
  have HS := Lib.hid (rsound_any A c n l r _ (hN.below hb) hn hk)
  rw [sndB_false h] at HS
  clear hN hk h hn
  go_enter Try.func20, Try.ntmps20
  go_wp2_with (go_at_call 16; refine HS.out.mono ?_; rintro e w1 ⟨rfl, hb1⟩)
  go_ret
  exact ⟨rfl, bt hb hb1⟩
set_option maxRecDepth 100000 in
set_option maxHeartbeats 1500000 in
theorem rdepth_yes (A : Option Addr) (c n : Nat) (l : List Nd) (r : Int) (w : World) (hN : Nds w A l) (hn : n = l.length) (hk : ∀ x ∈ l, x.ks.length ≤ 4000) (h : Snd l r) : Calls Try.prog 20 #[.agg #[.slice A n c, .int .i64 r]] w (IPost (dpL l n (n - 1) : Int) w) := by
  have hb : Below w.heap.size w (w.alloc (.cells #[.slice A n c, .int .i64 r] 30)) := heap1 _ _
  have HS := Lib.hid (rsound_any A c n l r _ (hN.below hb) hn hk)
  rw [sndB_true h] at HS
  have HN := Lib.hid hN
  have HL := Lib.hid hn
  have HK := Lib.hid hk
  obtain ⟨b, hS⟩ := h
  obtain ⟨h1, h2, h3, h4, h5⟩ := hS
  rw [← hn] at h1 h2 h3 h4
  obtain ⟨n', hn'⟩ : ∃ n', n' = n - 1 := ⟨_, rfl⟩
  have hr : r = (n' : Int) := by omega
  have hnn : n' < n := by omega
  rw [← hn']
  clear hn'
  subst hr
  have HU := Lib.hid h4
  clear hN hk hn h4 h3 h5
  go_enter Try.func20, Try.ntmps20
  go_wp2_with (go_at_call 16; refine HS.out.mono ?_)
  rintro e w1 ⟨rfl, hb1⟩
  clear HS
  have e0 : ∀ (w' : World) (o : Obj), (w'.alloc o).heap.size = w'.heap.size + 1 := fun w' o => World.size_alloc w' o
  have hbb := bt hb hb1
  have hz : w.heap.size < w1.heap.size := by have := hb1.size; rw [e0] at this; omega
  have hB : Bx w1 w.heap.size 30 [.slice A n c, .int .i64 (n' : Int)] := (Bx.new w 30 _).below hb1 (by rw [e0]; omega)
  clear hb hb1
  have hct0 := hB.cell 0
  simp only [List.getElem?_cons_zero] at hct0
  have hmk := fun w' => make22 n (by omega) w'
  go_wp2
  clear hmk hct0
  go_loopw [5] (fun i wr => ∃ p : Nat, p ≤ n ∧ i = .int .i64 (p : Int) ∧ Bx wr w.heap.size 30 [.slice A n c, .int .i64 (n' : Int)] ∧ Ib wr w1.heap.size n (fun j => (dpL l p j : Int)) ∧ Below w.heap.size w wr) (fun i _ => n - (intOf i).toNat)
  case atStart => exact ⟨0, Nat.zero_le _, rfl, hB.alloc _, World.alloc_heap_new _ _, hbb.alloc hbb.size _⟩
  case round =>
    clear hbb hB
    obtain ⟨p, hp, rfl, hB, hG, hbw⟩ := hrel
    have hct0 := hB.cell 0
    have hct1 := hB.cell 1
    simp only [List.getElem?_cons_zero, List.getElem?_cons_succ] at hct0 hct1
    by_cases hlt : p < n
    · have hlz : (p : Int) < (n : Int) := by omega
      have hpl : p < l.length := by rw [← HL.out]; exact hlt
      obtain ⟨bA, off, rfl, hbl, hc⟩ := HN.out (by omega)
      obtain ⟨K, ck, _, _, _, _, c4', hI⟩ := hc p hpl
      have hks : l[p].ks.length ≤ 4000 := HK.out _ (List.getElem_mem _)
      have hkid : ∀ j (hj : j < l[p].ks.length), ∃ m : Nat, l[p].ks[j] = m ∧ m < p := fun j hj => by
        obtain ⟨m, e, hm, _⟩ := HU.out.kid hlt (k := l[p].ks[j]) (by rw [kidsAt_eq hpl]; exact List.getElem_mem _)
        exact ⟨m, e, hm⟩
      have HKID := Lib.hid hkid
      have HKA := Lib.hid (kidsAt_eq hpl)
      clear hc hkid
      generalize l[p] = x at *
      obtain ⟨kd, nn, pl, tx, ks⟩ := x
      dsimp only at c4' hI hks HKA HKID
      obtain ⟨f, hf⟩ : ∃ f : Nat → Nat, f = fun j => (ks.take j).foldl (fun a k => max a (dpL l p k.toNat)) 0 := ⟨_, rfl⟩
      have HF := Lib.hid hf
      have HF0 := Lib.hid (show f 0 = 0 by rw [hf]; rfl)
      clear hf
      have hcg := hG.cell hlt
      have hfg := hG.frozen p
      generalize (dpL l p p : Int) = old at hcg
      have hzG : w1.heap.size < wr.heap.size := hG.lt
      go_wp2
      clear hcg hfg hct0 hct1
      go_loopw [6] (fun i ws => ∃ j : Nat, j ≤ ks.length ∧ i = .int .i64 (j : Int) ∧ Ib ws w1.heap.size n (fun q => if q = p then (f j : Int) + 1 else (dpL l p q : Int)) ∧ Bx ws w.heap.size 30 [.slice (some ⟨bA, off, none⟩) n c, .int .i64 (n' : Int)] ∧ Below w.heap.size w ws) (fun i _ => ks.length - (intOf i).toNat)
      case atStart =>
        refine ⟨0, Nat.zero_le _, rfl, (hG.set_ p _).congr fun q _ => ?_, hB.far (by show w.heap.size ≠ w1.heap.size; omega) _, hbw.setCell (p := ⟨w1.heap.size, p, none⟩) (by show _ ≤ w1.heap.size; omega) _⟩
        rw [HF0.out]; rfl
      case round =>
        clear hG hB hbw hzG
        obtain ⟨j, hj, rfl, hG2, hB2, hb2⟩ := hrel
        have d0 := hB2.cell 0
        simp only [List.getElem?_cons_zero] at d0
        have c4 := (hb2.cell (p := ⟨bA, off + p * 5 + 4, none⟩) hbl).trans c4'
        by_cases hjl : j < ks.length
        · have hjz : (j : Int) < (ks.length : Int) := by omega
          obtain ⟨bK, oK, rfl, hbK, hcK⟩ := hI (by omega)
          obtain ⟨m, hm, hmp⟩ := HKID.out j hjl
          have hck := (hb2.cell (p := ⟨bK, oK + j, none⟩) hbK).trans (hcK j hjl)
          rw [hm] at hck
          have hmn : m < n := by omega
          have hcg := hG2.cell hlt
          have hcm := hG2.cell hmn
          have hfg := hG2.frozen p
          rw [if_pos rfl] at hcg
          rw [if_neg (show ¬ m = p by omega)] at hcm
          have hdm : dpL l p m ≤ 4000 := by
            have h6 := (dpL_U (fun q hq => HU.out q (by omega) : StU l b p)).le (fun q hq => HU.out q (by omega)) m hmp
            omega
          have HFS := Lib.hid (show f (j + 1) = max (f j) (dpL l p m) by
            rw [HF.out]
            show (ks.take (j + 1)).foldl _ 0 = _
            rw [List.take_succ_eq_append_getElem hjl, List.foldl_append, hm]; rfl)
          clear hcK hm
          generalize dpL l p m = dm at *
          generalize f j = fj at *
          go_upto_region 12 with (fail)
          go_still_tail 21, (by kernel_rfl)
          change wpList _ _ _ _ _ _
          go_wp2
          go_roundw
          case rel =>
            refine ⟨j + 1, by omega, by go_num, (hG2.set_ p _).congr fun q _ => ?_, hB2.far (by show w.heap.size ≠ w1.heap.size; omega) _, bdrew (hb2.setCell (p := ⟨w1.heap.size, p, none⟩) (by show _ ≤ w1.heap.size; omega) _)⟩
            have h9 := HFS.out
            by_cases e : q = p
            · rw [if_pos e, if_pos e]; split <;> omega
            · rw [if_neg e, if_neg e, if_neg e]
          case measure => simp [intOf]; omega
        · obtain rfl : j = ks.length := by omega
          have hjz : ¬ (ks.length : Int) < (ks.length : Int) := by omega
          have HFE := Lib.hid (show f ks.length + 1 = dpL l (p + 1) p by
            show _ = (if p = p then dpK (dpL l p) (kidsAt l p) else dpL l p p)
            rw [if_pos rfl, HKA.out, HF.out]
            show (ks.take ks.length).foldl _ 0 + 1 = _
            rw [List.take_length]; rfl)
          go_wp2
          go_roundw
          case rel =>
            refine ⟨p + 1, by omega, by go_num, hB2, hG2.congr fun q _ => ?_, hb2⟩
            have h7 := HFE.out
            by_cases e : q = p
            · subst e; rw [if_pos rfl]; omega
            · rw [if_neg e]
              show _ = ((if q = p then dpK (dpL l p) (kidsAt l p) else dpL l p q : Nat) : Int)
              rw [if_neg e]
          case measure => simp [intOf]; omega
    · obtain rfl : p = n := by omega
      have hlz : ¬ (p : Int) < (p : Int) := by omega
      have hcg := hG.cell (i := n') (by omega)
      go_wp2
      go_ret
      exact ⟨rfl, hbw⟩
/-- the document's Depth, at any nodes -/
theorem rdepth_any (A : Option Addr) (c n : Nat) (l : List Nd) (r : Int) (w : World) (hN : Nds w A l) (hn : n = l.length) (hk : ∀ x ∈ l, x.ks.length ≤ 4000) : Calls Try.prog 20 #[.agg #[.slice A n c, .int .i64 r]] w (IPost (dpt l r : Int) w) := by
  by_cases h : Snd l r
  · rw [dpt_yes h, ← hn]; exact rdepth_yes A c n l r w hN hn hk h
  · rw [dpt_no h]; exact rdepth_no A c n l r w hN hn hk h
end Go.Proofs.Ytcnmkmdedeiffaa
