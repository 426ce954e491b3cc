/- PROVED here: the contract of Right. No condition but those in each theorem's own head. -/
import Derived.Test.YtcnmkmdedeiffaaTz
namespace Go.Proofs.Ytcnmkmdedeiffaa
open Go Go.RowKit

theorem dpK_pos (d : Nat → Nat) (ks : List Int) : 1 ≤ dpK d ks := by unfold dpK; omega
theorem dpt_pos {l : List Nd} {r : Int} (h : Snd l r) : 1 ≤ dpt l r := by
  rw [dpt_yes h]
  have h1 : 1 ≤ l.length := h.elim fun _ h => h.1
  obtain ⟨n, hn⟩ : ∃ n, l.length = n + 1 := ⟨l.length - 1, by omega⟩
  rw [hn]
  show 1 ≤ (if n + 1 - 1 = n then dpK (dpL l n) (kidsAt l n) else dpL l n (n + 1 - 1))
  rw [if_pos (by omega)]
  exact dpK_pos _ _
set_option maxRecDepth 100000 in
set_option maxHeartbeats 1500000 in
theorem right_any (A : Option Addr) (c n : Nat) (l : List Nd) (r : Int) (w : World) (hN : Nds w A l) (hn : n = l.length) (hk : ∀ x ∈ l, x.ks.length ≤ 4000) (ht : ∀ x ∈ l, x.tx.size ≤ 281474976710656) (hm : ∀ x ∈ l, x.n ≤ 9223372036854775807) : Calls Try.prog 17 #[.agg #[.slice A n c, .int .i64 r]] w (BPost (rgB l r) w) := by
  by_cases h : Snd l r
  · have hb : Below w.heap.size w (w.alloc (.cells #[.slice A n c, .int .i64 r] 30)) := heap1 _ _
    obtain ⟨W, hW⟩ : ∃ W, w.alloc (.cells #[.slice A n c, .int .i64 r] 30) = W := ⟨_, rfl⟩
    have hB : Bx W w.heap.size 30 [.slice A n c, .int .i64 r] := by rw [← hW]; exact Bx.new w 30 _
    rw [hW] at hb
    have HG := Lib.hid (show rgB l r = (decide (dpt l r ≤ 40) && (decide ((nth l (l.length - 1)).kd = 1) && shB l)) by unfold rgB; rw [sndB_true h]; rfl)
    have HD := Lib.hid (fun w' (h' : Nds w' A l) => depth_any A c n l r w' h' hn hk)
    have hsn := snd_iff.1 h
    have hdp := dpt_pos h
    have hn4 : n ≤ 4000 := by rw [hn]; exact hsn.1.2.1
    have HSH := Lib.hid (fun w' (h' : Nds w' A l) p (hp : p < n) => shaped_any A c n p l r w' h' hn hk ht hm (fun x hx k hkx => by
      obtain ⟨q, hq, e⟩ := List.getElem_of_mem hx
      have := hsn.2.1 q hq k (by rw [kidsAt_eq hq, e]; exact hkx)
      exact ⟨k.toNat, by omega, by omega⟩) hp hn4)
    obtain ⟨n', hn'⟩ : ∃ n', n' = n - 1 := ⟨_, rfl⟩
    have hr : r = (n' : Int) := by have := hsn.1.2.2; have := hsn.1.1; omega
    have hnn : n' < n := by have := hsn.1.1; omega
    have hnl : n' < l.length := by omega
    have HNK := Lib.hid (show (nth l (l.length - 1)).kd = l[n'].kd by rw [show l.length - 1 = n' by omega, nth_eq hnl])
    have HL := Lib.hid hn
    obtain ⟨bA, off, rfl, hbA, hcA⟩ := hN (by omega)
    have hkd := (hcA n' hnl).elim fun K h => h.elim fun c h => h.1
    have HN := Lib.hid hN
    generalize l[n'].kd = kd at *
    generalize dpt l r = dp at *
    clear hcA hsn hn' h hn hN hk ht hm hnl
    subst hr
    have d0 := (hB.cell 0).trans rfl
    have d1 := (hB.cell 1).trans rfl
    go_enter Try.func17, Try.ntmps17
    go_wp2_with (go_at_call 19; refine (HD.out _ (HN.out.below hb)).mono ?_)
    rintro e w1 ⟨rfl, hb1⟩
    clear HD
    have hB1 := hB.below hb1 hB.lt
    have hbw := bt hb hb1
    clear hB hb hb1 hW d0 d1
    have d0 := (hB1.cell 0).trans rfl
    have d1 := (hB1.cell 1).trans rfl
    have hkc := (hbw.cell (p := ⟨bA, off + n' * 5, none⟩) hbA).trans hkd
    have q0 : ((dp : Int) == 0) = false := by simp; omega
    by_cases g1 : dp ≤ 40
    · have q1 : decide ((40 : Int) < (dp : Int)) = false := decide_eq_false (by omega)
      by_cases g2 : kd = 1
      · subst g2
        have HE := Lib.hid (show rgB l (n' : Int) = shB l by rw [HG.out, HNK.out, decide_eq_true g1]; rfl)
        clear HG HNK g1
        go_wp2
        clear d0 d1 hkc
        go_loopw [26] (fun i wr => ∃ p : Nat, p ≤ n ∧ i = .int .i64 (p : Int) ∧ (l.take p).all (ndB l) = true ∧ Bx wr w.heap.size 30 [.slice (some ⟨bA, off, none⟩) n c, .int .i64 (n' : Int)] ∧ Below w.heap.size w wr) (fun i _ => n - (intOf i).toNat)
        case atStart => exact ⟨0, Nat.zero_le _, rfl, rfl, hB1, hbw⟩
        case round =>
          clear hB1 hbw
          obtain ⟨p, hp, rfl, hall, hB1, hbw⟩ := hrel
          have HA := Lib.hid hall
          clear hall
          have d0 := (hB1.cell 0).trans rfl
          have d1 := (hB1.cell 1).trans rfl
          by_cases hlt : p < n
          · have hlz : (p : Int) < (n : Int) := by omega
            have hpl : p < l.length := by rw [← HL.out]; exact hlt
            have HTP := Lib.hid (show l.take (p + 1) = l.take p ++ [nth l p] by rw [nth_eq hpl]; exact List.take_succ_eq_append_getElem hpl)
            have HNO := Lib.hid (show ndB l (nth l p) = false → shB l = false from fun h => by
              unfold shB; rw [List.all_eq_false]; exact ⟨l[p], List.getElem_mem _, by rw [nth_eq hpl] at h; simp [h]⟩)
            have HC := Lib.hid (HSH.out wr (HN.out.below hbw) p hlt)
            cases hv : ndB l (nth l p) with
            | true =>
              rw [hv] at HC
              have HV := Lib.hid hv
              clear hv
              go_wp2_with (go_at_call 29; refine HC.out.mono ?_; rintro e w2 ⟨rfl, hb2⟩)
              go_roundw
              case rel =>
                refine ⟨p + 1, by omega, by go_num, ?_, hB1.below hb2 hB1.lt, bt hbw hb2⟩
                rw [HTP.out, List.all_append, HA.out]
                simp [HV.out]
              case measure => simp [intOf]; omega
            | false =>
              rw [hv] at HC
              have HV := Lib.hid (HNO.out hv)
              clear hv
              go_wp2_with (go_at_call 29; refine HC.out.mono ?_; rintro e w2 ⟨rfl, hb2⟩)
              go_ret
              exact ⟨ret_bool (by rw [HE.out, HV.out]), bt hbw hb2⟩
          · obtain rfl : p = n := by omega
            have hlz : ¬ (p : Int) < (p : Int) := by omega
            have HV := Lib.hid (show shB l = true by
              have := HA.out
              rw [List.take_of_length_le (by rw [← HL.out]; exact Nat.le_refl _)] at this
              exact this)
            go_wp2
            go_ret
            exact ⟨ret_bool (by rw [HE.out, HV.out]), hbw⟩
      · have q2 : (kd != 1) = true := by simpa using g2
        have HE := Lib.hid (show rgB l (n' : Int) = false by rw [HG.out, HNK.out, decide_eq_false g2]; simp)
        clear HG HNK g1 g2
        go_wp2
        go_ret
        exact ⟨ret_bool HE.out.symm, hbw⟩
    · have q1 : decide ((40 : Int) < (dp : Int)) = true := decide_eq_true (by omega)
      have HE := Lib.hid (show rgB l (n' : Int) = false by rw [HG.out, decide_eq_false g1]; rfl)
      clear HG HNK g1
      go_wp2
      go_ret
      exact ⟨ret_bool HE.out.symm, hbw⟩
  · have HE : rgB l r = false := by unfold rgB; rw [sndB_false h]; rfl
    rw [HE]
    exact right_no A c n l r w hN hn hk h
end Go.Proofs.Ytcnmkmdedeiffaa
