/- PROVED here: the walk of TreeParents. No condition but those in each theorem's own head. -/
import Derived.Test.YtcnmkmdedeiffaaO
namespace Go.Proofs.Ytcnmkmdedeiffaa
open Go Go.RowKit

def TruePost (w : World) (e : Ending) (w' : World) : Prop := e = .returned (.bool true) ∧ Below w.heap.size w w'
theorem okT_ks {l : List Nd} {r : Int} (h : OkT (l, r)) : ∀ x ∈ l, x.ks.length ≤ 4000 := fun x hx => by have := (h.2 x hx).1; omega
set_option maxRecDepth 100000 in
set_option maxHeartbeats 1500000 in
theorem treeParents_any (A : Option Addr) (c n : Nat) (l : List Nd) (r : Int) (w : World) (hN : Nds w A l) (hn : n = l.length) (hc : n ≤ c) : Calls Try.prog 6 #[.agg #[.slice A n c, .int .i64 r]] w (TruePost w) := by
  have e0 : ∀ (w' : World) (o : Obj), (w'.alloc o).heap.size = w'.heap.size + 1 := fun w' o => World.size_alloc w' o
  have HL := Lib.hid hn
  have hb0 := heap1 w (.cells #[.slice A n c, .int .i64 r] 30)
  have hN0 := hN.below hb0
  have hB0 := Bx.new w 30 [.slice A n c, .int .i64 r]
  have H0 := Lib.hid (And.intro hb0 (And.intro hN0 hB0))
  clear hb0 hN0 hB0 hn hN
  go_enter Try.func6, Try.ntmps6
  go_wp2_with (go_at_call 8; refine (shown_any _).mono ?_)
  rintro e w1 ⟨rfl, hb1⟩
  obtain ⟨hb0, hN0, hB0⟩ := H0.out
  have hB1 := hB0.below hb1 hB0.lt
  have hN1 := hN0.below hb1
  have hb2 := bt hb0 hb1
  clear hb0 hN0 hB0 H0 hb1
  have d0 := hB1.cell 0
  have d1 := hB1.cell 1
  simp only [List.getElem?_cons_zero, List.getElem?_cons_succ] at d0 d1
  have HSM := Lib.hid (small_any (some ⟨w1.heap.size, 0, none⟩) 1 1 [(l, r)] _ (trs_one (r := r) hN1 HL.out hc) rfl)
  have hB2 := hB1.alloc (.cells #[.slice A n c, .int .i64 r] 30)
  have hN2 := hN1.below (heap1 w1 (.cells #[.slice A n c, .int .i64 r] 30))
  have hb3 := hb2.alloc hb2.size (.cells #[.slice A n c, .int .i64 r] 30)
  have H1 := Lib.hid (And.intro hb3 (And.intro hN2 hB2))
  clear hb2 hb3 hN1 hN2 hB1 hB2
  go_wp2_with (go_at_call 9; refine HSM.out.mono ?_)
  rintro e w2 ⟨hb4, bb, rfl, hsm⟩
  clear HSM
  obtain ⟨hb3, hN2, hB2⟩ := H1.out
  have hB3 := hB2.below hb4 hB2.lt
  have hN3 := hN2.below hb4
  have hb5 := bt hb3 hb4
  clear hb3 hb4 hN2 hB2 H1 d0 d1
  cases bb with
  | false =>
    clear hsm
    go_wp2
    go_ret
    exact ⟨rfl, hb5⟩
  | true =>
    have hok := (hsm rfl).2 _ List.mem_cons_self
    clear hsm
    have hn200 : n ≤ 200 := by rw [HL.out]; exact hok.1
    have HOK := Lib.hid hok
    clear hok
    have d0 := hB3.cell 0
    have d1 := hB3.cell 1
    simp only [List.getElem?_cons_zero, List.getElem?_cons_succ] at d0 d1
    have HP := Lib.hid (parents_any A c n l r w2 hN3 HL.out (okT_ks HOK.out))
    by_cases hS : Snd l r
    · rw [par_yes hS] at HP
      have HS := Lib.hid hS
      clear hS
      go_wp2_with (go_at_call 22; refine HP.out.mono ?_)
      rintro e w3 ⟨AP, cP, rfl, hIP, hb6⟩
      clear HP
      have hB4 := hB3.below hb6 hB3.lt
      have hN4 := hN3.below hb6
      have hb7 := bt hb5 hb6
      clear hB3 hN3 hb6 hb5 d0 d1
      have d0 := hB4.cell 0
      have d1 := hB4.cell 1
      simp only [List.getElem?_cons_zero, List.getElem?_cons_succ] at d0 d1
      have HSN := Lib.hid (sound_any A c n l r w3 hN4 HL.out (okT_ks HOK.out))
      rw [sndB_true HS.out] at HSN
      rw [show (List.map (paL l (l.length - 1) l.length) (List.range l.length)).length = n by rw [List.length_map, List.length_range]; exact HL.out.symm]
      go_wp2_with (go_at_call 15; refine HSN.out.mono ?_)
      rintro e w4 ⟨rfl, hb8⟩
      clear HSN
      have hB5 := hB4.below hb8 hB4.lt
      have hN5 := hN4.below hb8
      have hb9 := bt hb7 hb8
      have hIP2 := hIP.below hb8
      clear hB4 hN4 hb8 hb7 d0 d1 hIP
      obtain ⟨b, hSd⟩ := HS.out
      obtain ⟨h1, h2, h3, h4, h5⟩ := hSd
      have HU := Lib.hid h4
      have HZ := Lib.hid h5
      rw [← HL.out] at h1 h3 h4 h5
      obtain ⟨n', hn'⟩ : ∃ n', n' = n - 1 := ⟨_, rfl⟩
      have hr : r = (n' : Int) := by omega
      have hnn : n' < n := by omega
      have HN' := Lib.hid hn'
      clear h4 h5 h2 h3 hn' HS
      subst hr
      obtain ⟨bP, oP, rfl, hbP, hcP⟩ := hIP2 (by rw [List.length_map, List.length_range, ← HL.out]; omega)
      have hcells : ∀ j, j < n → w4.cell? ⟨bP, oP + j, none⟩ = some (.int .i64 (paL l n' n j)) := fun j hj => by
        rw [hcP j (by rw [List.length_map, List.length_range, ← HL.out]; exact hj)]
        rw [List.getElem_map, List.getElem_range, ← HL.out, ← HN'.out]
      clear hcP hIP2
      have HC := Lib.hid hcells
      clear hcells
      have cr := HC.out n' hnn
      rw [show paL l n' n n' = -1 by have := par_root HU.out; rw [← HL.out, ← HN'.out] at this; exact this] at cr
      have d0 := hB5.cell 0
      have d1 := hB5.cell 1
      simp only [List.getElem?_cons_zero, List.getElem?_cons_succ] at d0 d1
      have hq1 : ((n : Int) != (n : Int)) = false := by simp
      go_wp2
      go_loopw [6] (fun i wr => ∃ j : Nat, j ≤ n' ∧ i = .int .i64 (j : Int) ∧ Below w4.heap.size w4 wr) (fun i _ => n' - (intOf i).toNat)
      case atStart => exact ⟨0, Nat.zero_le _, rfl, Below.refl _ _⟩
      case round =>
        obtain ⟨j, hj, rfl, hbw⟩ := hrel
        have d0 := (hbw.cell (p := ⟨w.heap.size, 0, none⟩) hB5.lt).trans d0
        have d1 := (hbw.cell (p := ⟨w.heap.size, 1, none⟩) hB5.lt).trans d1
        by_cases hlt : j < n'
        · have hlz : (j : Int) < (n' : Int) := by omega
          have hpn := par_node HU.out HZ.out (i := j) (by rw [← HL.out, ← HN'.out]; exact hlt)
          rw [← HL.out, ← HN'.out] at hpn
          obtain ⟨m, hm1, hm2, hm3, hm4⟩ := hpn
          have cj := (hbw.cell (p := ⟨bP, oP + j, none⟩) hbP).trans (HC.out j (by omega))
          rw [hm3] at cj
          clear hm3
          have hjn : j < n := by omega
          have hml : m < l.length := by rw [← HL.out]; exact hm1
          obtain ⟨bA, off, rfl, hbA, hcA⟩ := (hN5.below hbw) (by omega)
          obtain ⟨K, ck, _, _, _, _, c4, hI⟩ := hcA m hml
          rw [kidsAt_eq hml] at hm4
          have hks : l[m].ks.length ≤ 200 := (HOK.out.2 _ (List.getElem_mem hml)).1
          clear hcA
          generalize l[m] = x at *
          obtain ⟨kd, nn, pl, tx, ks⟩ := x
          dsimp only at c4 hI hm4 hks
          have HM4 := Lib.hid hm4
          clear hm4
          have hle1 : ¬ (m : Int) ≤ (j : Int) := by omega
          have hd1 : decide ((m : Int) ≤ (j : Int)) = false := decide_eq_false hle1
          have hle2 : ¬ (n : Int) ≤ (m : Int) := by omega
          have hd2 : decide ((n : Int) ≤ (m : Int)) = false := decide_eq_false hle2
          go_wp2_with (fail)
          go_quiet (fail)
          all_goals go_wp2
          have hbq := below_drewN hbw nq
          have hIq : Ints (wr.drewN nq) K ks := hI
          have hsq : (wr.drewN nq).heap.size = wr.heap.size := rfl
          generalize wr.drewN nq = W5 at *
          clear hI
          go_loopw [7, 9] (fun u i wr => ∃ k : Nat, k ≤ ks.length ∧ i = .int .i64 (k : Int) ∧ u = .int .i64 ((ks.take k).count (j : Int) : Int) ∧ Below W5.heap.size W5 wr) (fun _ i _ => ks.length - (intOf i).toNat)
          case atStart => exact ⟨0, Nat.zero_le _, rfl, by simp, Below.refl _ _⟩
          case round =>
            obtain ⟨k, hk, rfl, rfl, hbv⟩ := hrel
            by_cases hkl : k < ks.length
            · have hkz : (k : Int) < (ks.length : Int) := by omega
              obtain ⟨bK, oK, rfl, hbK, hcK⟩ := hIq (by omega)
              have ck1 := (hbv.cell (p := ⟨bK, oK + k, none⟩) (by omega)).trans (hcK k hkl)
              have HTK := Lib.hid (show (ks.take (k + 1)).count (j : Int) = (ks.take k).count (j : Int) + if (ks[k] == (j : Int)) = true then 1 else 0 by
                rw [List.take_succ_eq_append_getElem hkl, List.count_append, List.count_singleton])
              have hcl : (ks.take k).count (j : Int) ≤ 200 := by have := List.count_le_length (a := (j : Int)) (l := ks.take k); rw [List.length_take] at this; omega
              clear hcK
              generalize ks[k] = kk at *
              generalize (ks.take k).count (j : Int) = cnt at *
              by_cases hkk : kk = (j : Int)
              · have hq : (kk == (j : Int)) = true := by simpa using hkk
                have HT2 := Lib.hid (show (ks.take (k + 1)).count (j : Int) = cnt + 1 by rw [HTK.out, if_pos hq])
                clear hkk
                go_wp2
                go_roundw
                case rel => exact ⟨k + 1, by omega, by go_num, by rw [HT2.out]; go_num, hbv⟩
                case measure => simp [intOf]; omega
              · have hq : (kk == (j : Int)) = false := by simpa using hkk
                have HT2 := Lib.hid (show (ks.take (k + 1)).count (j : Int) = cnt by rw [HTK.out, hq]; simp)
                clear hkk
                go_wp2
                go_roundw
                case rel => exact ⟨k + 1, by omega, by go_num, by rw [HT2.out], hbv⟩
                case measure => simp [intOf]; omega
            · obtain rfl : k = ks.length := by omega
              have hkz : ¬ (ks.length : Int) < (ks.length : Int) := by omega
              rw [List.take_length, HM4.out]
              go_wp2
              go_roundw
              case rel => exact ⟨j + 1, by omega, by go_num, bt hbq hbv⟩
              case measure => simp [intOf]; omega
        · obtain rfl : j = n' := by omega
          have hlz : ¬ (j : Int) < (j : Int) := by omega
          go_wp2
          go_ret
          exact ⟨rfl, bt hb9 hbw⟩
    · rw [par_no hS] at HP
      have HS := Lib.hid hS
      clear hS
      go_wp2_with (go_at_call 22; refine HP.out.mono ?_)
      rintro e w3 ⟨AP, cP, rfl, hIP, hb6⟩
      clear HP hIP
      have hB4 := hB3.below hb6 hB3.lt
      have hN4 := hN3.below hb6
      have hb7 := bt hb5 hb6
      clear hB3 hN3 hb6 hb5 d0 d1
      have d0 := hB4.cell 0
      have d1 := hB4.cell 1
      simp only [List.getElem?_cons_zero, List.getElem?_cons_succ] at d0 d1
      have HSN := Lib.hid (sound_any A c n l r w3 hN4 HL.out (okT_ks HOK.out))
      rw [sndB_false HS.out] at HSN
      rw [show ([] : List Int).length = 0 from rfl]
      go_wp2_with (go_at_call 15; refine HSN.out.mono ?_)
      rintro e w4 ⟨rfl, hb8⟩
      clear HSN
      have hB5 := hB4.below hb8 hB4.lt
      have hN5 := hN4.below hb8
      have hb9 := bt hb7 hb8
      clear hB4 hN4 hb8 hb7 d0 d1
      have d0 := hB5.cell 0
      have d1 := hB5.cell 1
      simp only [List.getElem?_cons_zero, List.getElem?_cons_succ] at d0 d1
      have HD := Lib.hid (depth_no A c n l r w4 hN5 HL.out (okT_ks HOK.out) HS.out)
      go_wp2_with (go_at_call 19; refine HD.out.mono ?_)
      rintro e w5 ⟨rfl, hb10⟩
      clear HD
      have hB6 := hB5.below hb10 hB5.lt
      have hN6 := hN5.below hb10
      have hb11 := bt hb9 hb10
      clear hB5 hN5 hb10 hb9 d0 d1
      have d0 := hB6.cell 0
      have d1 := hB6.cell 1
      simp only [List.getElem?_cons_zero, List.getElem?_cons_succ] at d0 d1
      have HR := Lib.hid (right_no A c n l r w5 hN6 HL.out (okT_ks HOK.out) HS.out)
      go_wp2_with (go_at_call 17; refine HR.out.mono ?_)
      rintro e w6 ⟨rfl, hb12⟩
      clear HR
      go_wp2
      go_ret
      exact ⟨rfl, bt hb11 hb12⟩
end Go.Proofs.Ytcnmkmdedeiffaa
