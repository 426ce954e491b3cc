/- PROVED here: the contract of the document's Right. No condition but those in each theorem's own head. -/
import Derived.Test.YtcnmkmdedeiffaaTp
namespace Go.Proofs.Ytcnmkmdedeiffaa
open Go Go.RowKit

/-- is a tree right -/
noncomputable def rgB (l : List Nd) (r : Int) : Bool := sndB l r && (decide (dpt l r ≤ 40) && (decide ((nth l (l.length - 1)).kd = 1) && shB l))
set_option maxRecDepth 100000 in
set_option maxHeartbeats 1500000 in
theorem rright_any (A : Option Addr) (c n : Nat) (l : List Nd) (r : Int) (w : World) (hN : Nds w A l) (hn : n = l.length) (hk : ∀ x ∈ l, x.ks.length ≤ 4000) (ht : ∀ x ∈ l, x.tx.size ≤ 281474976710656) : Calls Try.prog 18 #[.agg #[.slice A n c, .int .i64 r]] w (BPost (rgB l r) w) := by
  have hb : Below w.heap.size w (w.alloc (.cells #[.slice A n c, .int .i64 r] 30)) := heap1 _ _
  obtain ⟨W, hW⟩ : ∃ W, w.alloc (.cells #[.slice A n c, .int .i64 r] 30) = W := ⟨_, rfl⟩
  have hB : Bx W w.heap.size 30 [.slice A n c, .int .i64 r] := by rw [← hW]; exact Bx.new w 30 _
  rw [hW] at hb
  have HS := Lib.hid (rsound_any A c n l r W (hN.below hb) hn hk)
  have d0 := hB.cell 0
  have d1 := hB.cell 1
  simp only [List.getElem?_cons_zero, List.getElem?_cons_succ] at d0 d1
  by_cases h : Snd l r
  · rw [sndB_true h] at HS
    have HG := Lib.hid (show rgB l r = (decide (dpt l r ≤ 40) && (decide ((nth l (l.length - 1)).kd = 1) && shB l)) by unfold rgB; rw [sndB_true h]; rfl)
    have HD := Lib.hid (fun w' (h' : Nds w' A l) => rdepth_any A c n l r w' h' hn hk)
    have hsn := snd_iff.1 h
    have hn4 : n ≤ 4000 := by rw [hn]; exact hsn.1.2.1
    have HSH := Lib.hid (fun w' (h' : Nds w' A l) => rshaped_any A c n l r w' h' hn hk hn4 ht (fun x hx k hkx => by
      obtain ⟨p, hp, e⟩ := List.getElem_of_mem hx
      have := hsn.2.1 p hp k (by rw [kidsAt_eq hp, e]; exact hkx)
      exact ⟨k.toNat, by omega, by omega⟩))
    obtain ⟨n', hn'⟩ : ∃ n', n' = n - 1 := ⟨_, rfl⟩
    have hr : r = (n' : Int) := by have := hsn.1.2.2; have := hsn.1.1; omega
    have hnn : n' < n := by have := hsn.1.1; omega
    have hnl : n' < l.length := by omega
    have HNK := Lib.hid (show (nth l (l.length - 1)).kd = l[n'].kd by rw [show l.length - 1 = n' by omega, nth_eq hnl])
    obtain ⟨bA, off, rfl, hbA, hcA⟩ := hN (by omega)
    have hkd := (hcA n' hnl).elim fun K h => h.elim fun c h => h.1
    have HN := Lib.hid hN
    generalize l[n'].kd = kd at *
    generalize dpt l r = dp at *
    generalize shB l = sB at *
    clear hcA hsn hn' h hn hN hk ht hn4 hnl
    subst hr
    go_enter Try.func18, Try.ntmps18
    go_wp2_with (go_at_call 16; refine HS.out.mono ?_)
    rintro e w1 ⟨rfl, hb1⟩
    clear HS
    have hB1 := hB.below hb1 hB.lt
    have hbw1 := bt hb hb1
    clear d0 d1 hB hb hb1 hW
    have d0 := hB1.cell 0
    have d1 := hB1.cell 1
    simp only [List.getElem?_cons_zero, List.getElem?_cons_succ] at d0 d1
    go_wp2_with (go_at_call 20; refine (HD.out w1 (HN.out.below hbw1)).mono ?_)
    rintro e w2 ⟨rfl, hb2⟩
    have hB2 := hB1.below hb2 hB1.lt
    have hbw2 := bt hbw1 hb2
    clear d0 d1 hB1 hbw1 hb2 HD
    have d0 := hB2.cell 0
    have d1 := hB2.cell 1
    simp only [List.getElem?_cons_zero, List.getElem?_cons_succ] at d0 d1
    have hkc := (hbw2.cell (p := ⟨bA, off + n' * 5, none⟩) hbA).trans hkd
    by_cases g1 : dp ≤ 40
    · have q1 : decide ((40 : Int) < (dp : Int)) = false := decide_eq_false (by omega)
      by_cases g2 : kd = 1
      · subst g2
        have HE := Lib.hid (show rgB l (n' : Int) = sB by rw [HG.out, HNK.out, decide_eq_true g1]; rfl)
        clear HG HNK g1
        go_wp2_with (go_at_call 30; refine (HSH.out w2 (HN.out.below hbw2)).mono ?_; rintro e w3 ⟨rfl, hb3⟩)
        go_ret
        exact ⟨ret_bool HE.out.symm, bt hbw2 hb3⟩
      · have q2 : (kd != 1) = true := by simpa using g2
        have HE := Lib.hid (show rgB l (n' : Int) = false by rw [HG.out, HNK.out, decide_eq_false g2]; simp)
        clear HG HNK g1 g2
        go_wp2
        go_ret
        exact ⟨ret_bool HE.out.symm, hbw2⟩
    · have q1 : decide ((40 : Int) < (dp : Int)) = true := decide_eq_true (by omega)
      have HE := Lib.hid (show rgB l (n' : Int) = false by rw [HG.out, decide_eq_false g1]; rfl)
      clear HG HNK g1
      go_wp2
      go_ret
      exact ⟨ret_bool HE.out.symm, hbw2⟩
  · rw [sndB_false h] at HS
    have HE := Lib.hid (show rgB l r = false by unfold rgB; rw [sndB_false h]; rfl)
    clear h hN hn hk ht
    go_enter Try.func18, Try.ntmps18
    go_wp2_with (go_at_call 16; refine HS.out.mono ?_; rintro e w1 ⟨rfl, hb1⟩)
    go_ret
    exact ⟨ret_bool HE.out.symm, bt hb hb1⟩
end Go.Proofs.Ytcnmkmdedeiffaa
