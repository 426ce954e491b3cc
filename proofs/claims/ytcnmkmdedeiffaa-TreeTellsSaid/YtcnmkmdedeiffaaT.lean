/- PROVED here: the walk of TreeDepths. No condition but those in each theorem's own head. -/
import Derived.Test.YtcnmkmdedeiffaaR
import Derived.Test.YtcnmkmdedeiffaaS
namespace Go.Proofs.Ytcnmkmdedeiffaa
open Go Go.RowKit

/-- what lies in memory behind the first lines of a law: the tree's box -/
def LW (w : World) (A : Option Addr) (c n : Nat) (l : List Nd) (r : Int) (W : World) : Prop := Bx W w.heap.size 30 [.slice A n c, .int .i64 r] ∧ Nds W A l ∧ Below w.heap.size w W
theorem LW.below {w W W' : World} {A : Option Addr} {c n : Nat} {l : List Nd} {r : Int} (h : LW w A c n l r W) (hb : Below W.heap.size W W') : LW w A c n l r W' := ⟨h.1.below hb h.1.lt, h.2.1.below hb, bt h.2.2 hb⟩
theorem LW.alloc {w W : World} {A : Option Addr} {c n : Nat} {l : List Nd} {r : Int} (h : LW w A c n l r W) (o : Obj) : LW w A c n l r (W.alloc o) := h.below (heap1 _ _)
set_option maxRecDepth 100000 in
set_option maxHeartbeats 1500000 in
theorem treeDepths_any (A : Option Addr) (c n : Nat) (l : List Nd) (r : Int) (pl : Int) (w : World) (hN : Nds w A l) (hn : n = l.length) (hc : n ≤ c) : Calls Try.prog 7 #[.agg #[.slice A n c, .int .i64 r], .int .i64 pl] w (TruePost w) := by
  have HL := Lib.hid hn
  have H0 := Lib.hid (show LW w A c n l r (w.alloc (.cells #[.slice A n c, .int .i64 r] 30)) from ⟨Bx.new w 30 _, hN.below (heap1 _ _), heap1 _ _⟩)
  clear hn hN
  go_enter Try.func7, Try.ntmps7
  go_wp2_with (go_at_call 8; refine (shown_any _).mono ?_)
  rintro e w1 ⟨rfl, hb1⟩
  have h1 := H0.out.below hb1
  clear H0 hb1
  have d0 := h1.1.cell 0
  have d1 := h1.1.cell 1
  simp only [List.getElem?_cons_zero, List.getElem?_cons_succ] at d0 d1
  have HSM := Lib.hid (small_any (some ⟨w1.heap.size, 0, none⟩) 1 1 [(l, r)] _ (trs_one (r := r) h1.2.1 HL.out hc) rfl)
  have H1 := Lib.hid (h1.alloc (.cells #[.slice A n c, .int .i64 r] 30))
  clear h1
  go_wp2_with (go_at_call 9; refine HSM.out.mono ?_)
  rintro e w2 ⟨hb4, bb, rfl, hsm⟩
  have h2 := H1.out.below hb4
  clear HSM hb4 H1 d0 d1
  have H2 := Lib.hid h2
  cases bb with
  | false =>
    clear hsm h2
    go_wp2
    go_ret
    exact ⟨rfl, H2.out.2.2⟩
  | true =>
    have hok := (hsm rfl).2 _ List.mem_cons_self
    clear hsm
    have hn200 : n ≤ 200 := by rw [HL.out]; exact hok.1
    have HOK := Lib.hid (okT_ks hok)
    have HOK2 := Lib.hid hok
    clear hok
    have d0 := h2.1.cell 0
    have d1 := h2.1.cell 1
    simp only [List.getElem?_cons_zero, List.getElem?_cons_succ] at d0 d1
    have HSN := Lib.hid (sound_any A c n l r w2 h2.2.1 HL.out HOK.out)
    clear h2
    by_cases hS : Snd l r
    · rw [sndB_true hS] at HSN
      have HS := Lib.hid hS
      clear hS
      go_wp2_with (go_at_call 15; refine HSN.out.mono ?_)
      rintro e w3 ⟨rfl, hb5⟩
      have h3 := H2.out.below hb5
      clear HSN hb5 H2 d0 d1
      have d0 := h3.1.cell 0
      have d1 := h3.1.cell 1
      simp only [List.getElem?_cons_zero, List.getElem?_cons_succ] at d0 d1
      have H3 := Lib.hid h3
      by_cases hpl : pl < 0 ∨ (n : Int) ≤ pl
      · have HSB := Lib.hid (sub_no A c n l r pl w3 h3.2.1 HL.out HOK.out (.inr hpl))
        clear h3
        go_wp2_with (go_at_call 24; refine HSB.out.mono ?_)
        rintro e w4 ⟨AS, cS, rfl, _, _, hb6⟩
        have h4 := H3.out.below hb6
        have h5 := h4.alloc (.cells #[.slice AS 0 cS, .int .i64 0] 30)
        rw [show ([] : List Nd).length = 0 from rfl]
        have HD := Lib.hid (depth_any AS cS 0 [] 0 (w4.alloc (.cells #[.slice AS 0 cS, .int .i64 0] 30)) (fun h => absurd h (Nat.lt_irrefl 0)) rfl (fun x hx => by cases hx))
        rw [dpt_no (not_snd_nil 0)] at HD
        have HF := Lib.hid h5
        clear HSB hb6 H3 d0 d1 h4
        have d0 := h5.1.cell 0
        have d1 := h5.1.cell 1
        simp only [List.getElem?_cons_zero, List.getElem?_cons_succ] at d0 d1
        clear h5
        by_cases h1 : pl < 0
        · have hd1 : decide (pl < 0) = true := decide_eq_true h1
          go_wp2_with (go_at_call 19; refine HD.out.mono ?_)
          rintro e w6 ⟨rfl, hb7⟩
          go_wp2
          go_ret
          exact ⟨rfl, bt HF.out.2.2 hb7⟩
        · have hd1 : decide (pl < 0) = false := decide_eq_false h1
          have h2 : (n : Int) ≤ pl := by omega
          have hd2 : decide ((n : Int) ≤ pl) = true := decide_eq_true h2
          clear hpl
          go_wp2_with (go_at_call 19; refine HD.out.mono ?_)
          rintro e w6 ⟨rfl, hb7⟩
          go_wp2
          go_ret
          exact ⟨rfl, bt HF.out.2.2 hb7⟩
      · obtain ⟨p, rfl⟩ : ∃ p : Nat, pl = (p : Int) := ⟨pl.toNat, by omega⟩
        have hpn : p < n := by omega
        have hpl2 : p < l.length := by rw [← HL.out]; exact hpn
        clear hpl
        have HSB := Lib.hid (sub_yes A c n l r p w3 h3.2.1 HL.out hc HOK.out HS.out hpn)
        clear h3
        go_wp2_with (go_at_call 24; refine HSB.out.mono ?_)
        rintro e w4 ⟨AS, cS, rfl, hNS, hcS, hb6⟩
        have h4 := H3.out.below hb6
        clear HSB hb6 H3 d0 d1
        obtain ⟨nS, hnS⟩ : ∃ nS, nS = (subL l p).length := ⟨_, rfl⟩
        obtain ⟨rS, hrS0⟩ : ∃ rS, rS = subR l p := ⟨_, rfl⟩
        rw [← hnS, ← hrS0]
        have HNS := Lib.hid hnS
        have HRS := Lib.hid hrS0
        rw [← hnS] at hcS
        clear hnS hrS0
        have h5 := h4.alloc (.cells #[.slice AS nS cS, .int .i64 (rS : Int)] 30)
        have hU5 := Bx.new w4 30 [.slice AS nS cS, .int .i64 (rS : Int)]
        have hN5 := hNS.below (heap1 w4 (.cells #[.slice AS nS cS, .int .i64 (rS : Int)] 30))
        clear h4 hNS
        have d0 := h5.1.cell 0
        have d1 := h5.1.cell 1
        simp only [List.getElem?_cons_zero, List.getElem?_cons_succ] at d0 d1
        obtain ⟨bA, off, rfl, hbA, hcA⟩ := h5.2.1 (by omega)
        obtain ⟨K, ck, c0, c1, c2, c3, c4, hI⟩ := hcA p hpl2
        have HKA := Lib.hid (kidsAt_eq hpl2)
        have HKD := Lib.hid (subL_root HS.out hpl2)
        have hks : l[p].ks.length ≤ 200 := (HOK2.out.2 _ (List.getElem_mem hpl2)).1
        clear hcA
        generalize l[p] = x at *
        obtain ⟨kd, nn, plc, tx, ks⟩ := x
        dsimp only at c0 c1 c2 c3 c4 hI hks HKA HKD
        have HH5 := Lib.hid (And.intro h5 (And.intro hU5 hN5))
        have hpz : ¬ (p : Int) < 0 := by omega
        have hd1 : decide ((p : Int) < 0) = false := decide_eq_false hpz
        have hpz2 : ¬ (n : Int) ≤ (p : Int) := by omega
        have hd2 : decide ((n : Int) ≤ (p : Int)) = false := decide_eq_false hpz2
        clear h5 hU5 hN5
        go_upto_region 9 with (fail)
        refine gen_world (fun W => LW w (some ⟨bA, off, none⟩) c n l r W ∧ Bx W w4.heap.size 30 [.slice AS nS cS, .int .i64 (rS : Int)] ∧ Nds W AS (subL l p) ∧ Bx W (w4.heap.size + 1) 24 [.int .i64 kd, .int .i64 nn, .int .i64 plc, .string tx, .slice K ks.length ck] ∧ Ints W K ks) ?_ ?_
        · obtain ⟨h5, hU5, hN5⟩ := HH5.out
          have hX := Bx.new (w4.alloc (.cells #[.slice AS nS cS, .int .i64 (rS : Int)] 30)) 24 [.int .i64 kd, .int .i64 nn, .int .i64 plc, .string tx, .slice K ks.length ck]
          rw [World.size_alloc] at hX
          exact ⟨h5.alloc _, hU5.alloc _, hN5.below (heap1 _ _), hX, hI.below (heap1 _ _)⟩
        clear HH5 c0 c1 c2 c3 c4 d0 d1 hI
        obtain ⟨g8, hg8⟩ : ∃ g8, g8 = w4.heap.size + 1 := ⟨_, rfl⟩
        obtain ⟨g7, hg7⟩ : ∃ g7, g7 = w4.heap.size := ⟨_, rfl⟩
        rw [← hg8, ← hg7]
        clear hg8 hg7
        rintro W ⟨hLW, hU, hNS, hX, hIK⟩
        have HA := Lib.hid (And.intro hLW (And.intro hU (And.intro hNS (And.intro hX hIK))))
        clear hLW hU hNS hX hIK hbA
        go_wp2
        go_loopw [9] (fun v wr => ∃ i : Nat, i ≤ ks.length ∧ v = .int .i64 (i : Int) ∧ Below W.heap.size W wr) (fun v _ => ks.length - (intOf v).toNat)
        case atStart => exact ⟨0, Nat.zero_le _, rfl, Below.refl _ _⟩
        case round =>
        obtain ⟨i, hi, rfl, hbw⟩ := hrel
        obtain ⟨hLW, hU, hNS, hX, hIK⟩ := HA.out
        have hT := hLW.1.below hbw hLW.1.lt
        have hTN := hLW.2.1.below hbw
        have hU := hU.below hbw hU.lt
        have hNS := hNS.below hbw
        have hX := hX.below hbw hX.lt
        have hIK := hIK.below hbw
        have x0 := hX.cell 0
        have x4 := hX.cell 4
        simp only [List.getElem?_cons_zero, List.getElem?_cons_succ] at x0 x4
        have HDP := Lib.hid (subL_dp HS.out hpl2)
        have HDPS := Lib.hid (fun (w' : World) (h : Cl wr w') => depth_any AS cS nS (subL l p) (rS : Int) w' (hNS.below h) HNS.out (subL_ks HOK.out))
        rw [HRS.out, HDP.out, ← HRS.out] at HDPS
        obtain ⟨dS, hdS⟩ : ∃ dS, dS = dpL l l.length p := ⟨_, rfl⟩
        rw [← hdS] at HDPS
        by_cases hlt : i < ks.length
        · have hlz : (i : Int) < (ks.length : Int) := by omega
          obtain ⟨bK, oK, rfl, hbK, hcK⟩ := hIK (by omega)
          have hck := hcK i hlt
          have hik : i < ks.length := hlt
          obtain ⟨m, hm, hmp⟩ : ∃ m : Nat, ks[i] = m ∧ m < l.length ∧ dpL l l.length m < dpL l l.length p := by
            have hmem : ks[i] ∈ kidsAt l p := by rw [HKA.out]; exact List.getElem_mem _
            obtain ⟨b, hb⟩ := HS.out
            obtain ⟨m, e, _⟩ := hb.2.2.2.1.kid hpl2 hmem
            rw [e] at hmem
            exact ⟨m, e, dp_kid HS.out hpl2 hmem⟩
          rw [hm] at hck
          have hdec : decide ((dS : Int) ≤ (dpL l l.length m : Int)) = false := decide_eq_false (by omega)
          have HSUB := Lib.hid (fun (w' : World) (h : Cl wr w') => (sub_yes (some ⟨bA, off, none⟩) c n l r m w' (hTN.below h) HL.out hc HOK.out HS.out (by rw [HL.out]; exact hmp.1)).mono (R' := fun e w'' => ∃ v, e = .returned v ∧ ∃ A c, v = .agg #[.slice A (subL l m).length c, .int .i64 (subR l m : Int)] ∧ Nds w'' A (subL l m) ∧ (subL l m).length ≤ c ∧ Below w'.heap.size w' w'') (fun e w'' ⟨A, c, he, h1, h2, h3⟩ => ⟨_, he, A, c, rfl, h1, h2, h3⟩))
          have HDM := Lib.hid (fun (A : Option Addr) (c : Nat) (w' : World) (h : Nds w' A (subL l m)) => (depth_any A c (subL l m).length (subL l m) (subR l m : Int) w' h rfl (subL_ks HOK.out)).mono (R' := fun e w'' => ∃ v, e = .returned v ∧ v = .int .i64 (dpL l l.length m : Int) ∧ Below w'.heap.size w' w'') (fun e w'' ⟨he, hb⟩ => ⟨_, he, by rw [subL_dp HS.out hmp.1], hb⟩))
          have HDS := Lib.hid (fun (w' : World) (h : Cl wr w') => (HDPS.out w' h).mono (R' := fun e w'' => ∃ v, e = .returned v ∧ v = .int .i64 (dS : Int) ∧ Below w'.heap.size w' w'') (fun e w'' ⟨he, hb⟩ => ⟨_, he, rfl, hb⟩))
          clear hcK HDPS hm
          go_upto_region 12 with (fail)
          refine wp_region_held (S := Cl wr) (by kernel_rfl) ?_
          have hS : Cl wr { wr with drawn := wr.drawn + 1 } := ⟨rfl, rfl, rfl, Nat.le_refl _, fun _ _ => rfl⟩
          refine h_pure 0 ({ dst := some 59, op := Op.load 30 (Operand.tmp 2), type := 30, pos := "more.go:21", after := #[], guard := none } : Oper) (.agg #[.slice (some ⟨bA, off, none⟩) n c, .int .i64 r]) (by kernel_rfl) rfl (by kernel_rfl) (by kernel_rfl) (fun _ _ _ h => h) rfl (y_load rfl rfl (fun w' h => run_load30 (hT.below h hT.lt))) hS ?_
          simp only [Act.put, List.setIfInBounds_toArray, List.set_cons_zero, List.set_cons_succ]
          refine h_pure 1 ({ dst := some 60, op := Op.fieldAddr 24 (Operand.tmp 8) 4, type := 0, pos := "more.go:21", after := #[], guard := none } : Oper) (.pointer (some ⟨g8, 4, none⟩)) (by kernel_rfl) rfl (by kernel_rfl) (by kernel_rfl) (fun _ _ _ h => h) rfl (y_field rfl rfl (run_field24_4 _ 0)) hS ?_
          simp only [Act.put, List.setIfInBounds_toArray, List.set_cons_zero, List.set_cons_succ]
          refine h_pure 2 ({ dst := some 61, op := Op.load 22 (Operand.tmp 60), type := 22, pos := "more.go:21", after := #[{ on := 1, ground := Ground.data }], guard := none } : Oper) (.slice (some ⟨bK, oK, none⟩) ks.length ck) (by kernel_rfl) rfl (by kernel_rfl) (by kernel_rfl) (fun _ _ _ h => h) rfl (y_load rfl rfl (fun w' h => run_load22 ((Below.cell h (p := ⟨g8, 4, none⟩) hX.lt).trans x4))) hS ?_
          simp only [Act.put, List.setIfInBounds_toArray, List.set_cons_zero, List.set_cons_succ]
          refine h_pure 3 ({ dst := some 62, op := Op.move (Operand.tmp 9), type := 3, pos := "more.go:21", after := #[], guard := none } : Oper) (.int .i64 (i : Int)) (by kernel_rfl) rfl (by kernel_rfl) (by kernel_rfl) (fun _ _ _ h => h) rfl (y_move rfl rfl) hS ?_
          simp only [Act.put, List.setIfInBounds_toArray, List.set_cons_zero, List.set_cons_succ]
          refine h_pure 4 ({ dst := some 63, op := Op.indexAddr 22 (Operand.tmp 61) (Operand.tmp 62), type := 0, pos := "more.go:21", after := #[{ on := 2, ground := Ground.data }, { on := 3, ground := Ground.data }], guard := none } : Oper) (.pointer (some ⟨bK, oK + i, none⟩)) (by kernel_rfl) rfl (by kernel_rfl) (by kernel_rfl) (fun _ _ _ h => h) rfl (y_index rfl rfl rfl (run_index22 _ _ _ _ _ hik)) hS ?_
          simp only [Act.put, List.setIfInBounds_toArray, List.set_cons_zero, List.set_cons_succ]
          refine h_pure 5 ({ dst := some 64, op := Op.load 3 (Operand.tmp 63), type := 3, pos := "more.go:21", after := #[{ on := 4, ground := Ground.data }], guard := none } : Oper) (.int .i64 (m : Int)) (by kernel_rfl) rfl (by kernel_rfl) (by kernel_rfl) (fun _ _ _ h => h) rfl (y_load rfl rfl (fun w' h => run_load3 ((Below.cell h (p := ⟨bK, oK + i, none⟩) hbK).trans hck))) hS ?_
          simp only [Act.put, List.setIfInBounds_toArray, List.set_cons_zero, List.set_cons_succ]
          refine h_pure 8 ({ dst := some 67, op := Op.load 30 (Operand.tmp 7), type := 30, pos := "more.go:21", after := #[], guard := none } : Oper) (.agg #[.slice AS nS cS, .int .i64 (rS : Int)]) (by kernel_rfl) rfl (by kernel_rfl) (by kernel_rfl) (fun _ _ _ h => h) rfl (y_load rfl rfl (fun w' h => run_load30 (hU.below h hU.lt))) hS ?_
          simp only [Act.put, List.setIfInBounds_toArray, List.set_cons_zero, List.set_cons_succ]
          refine h_call 6 ({ dst := some 65, op := Op.call { callee := Callee.value (Operand.func 24), args := #[Operand.tmp 59, Operand.tmp 64], argTypes := #[30, 3] }, type := 30, pos := "more.go:21", after := #[{ on := 0, ground := Ground.data }, { on := 5, ground := Ground.data }], guard := none } : Oper) (args := #[.agg #[.slice (some ⟨bA, off, none⟩) n c, .int .i64 r], .int .i64 (m : Int)]) own24 rfl rfl (by kernel_rfl) rfl rfl (HSUB.out _ hS) ?_
          rintro v W2 ⟨AM, cM, rfl, hNM, hcM, hbM⟩
          have hS := hS.trans hbM
          refine ⟨hS, ?_⟩
          simp only [Act.put, List.setIfInBounds_toArray, List.set_cons_zero, List.set_cons_succ]
          refine h_call 7 ({ dst := some 66, op := Op.call { callee := Callee.value (Operand.func 19), args := #[Operand.tmp 65], argTypes := #[30] }, type := 3, pos := "more.go:21", after := #[{ on := 6, ground := Ground.data }, { on := 6, ground := Ground.chain }], guard := none } : Oper) (args := #[.agg #[.slice AM (subL l m).length cM, .int .i64 (subR l m : Int)]]) own19 rfl rfl (by kernel_rfl) rfl rfl (HDM.out _ _ _ hNM) ?_
          rintro v W3 ⟨rfl, hbN⟩
          have hS := hS.trans hbN
          refine ⟨hS, ?_⟩
          simp only [Act.put, List.setIfInBounds_toArray, List.set_cons_zero, List.set_cons_succ]
          refine h_call 9 ({ dst := some 68, op := Op.call { callee := Callee.value (Operand.func 19), args := #[Operand.tmp 67], argTypes := #[30] }, type := 3, pos := "more.go:21", after := #[{ on := 8, ground := Ground.data }, { on := 7, ground := Ground.chain }], guard := none } : Oper) (args := #[.agg #[.slice AS nS cS, .int .i64 (rS : Int)]]) own19 rfl rfl (by kernel_rfl) rfl rfl (HDS.out _ hS) ?_
          rintro v W4 ⟨rfl, hbP⟩
          have hS := hS.trans hbP
          refine ⟨hS, ?_⟩
          simp only [Act.put, List.setIfInBounds_toArray, List.set_cons_zero, List.set_cons_succ]
          refine h_pure 10 ({ dst := some 69, op := Op.binOp BinOp.geq 3 (Operand.tmp 66) (Operand.tmp 68) 3, type := 4, pos := "more.go:21", after := #[{ on := 7, ground := Ground.data }, { on := 9, ground := Ground.data }], guard := none } : Oper) (.bool false) (by kernel_rfl) rfl (by kernel_rfl) (by kernel_rfl) (fun _ _ _ h => h) rfl (y_geqI rfl rfl rfl hdec) hS ?_
          simp only [Act.put, List.setIfInBounds_toArray, List.set_cons_zero, List.set_cons_succ]
          refine wpAnyH_done (by kernel_rfl) ?_ _
          go_wp2
          go_roundw
          case rel => exact ⟨i + 1, by omega, by go_num, bt hbw hS⟩
          case measure => simp [intOf]; omega
        · obtain rfl : i = ks.length := by omega
          have hlz : ¬ (ks.length : Int) < (ks.length : Int) := by omega
          obtain ⟨hrS1, hkd1⟩ := HKD.out
          have hrS : rS < nS := by rw [HRS.out, HNS.out]; exact hrS1
          obtain ⟨bS, oS, rfl, hbS, hcS2⟩ := hNS (by omega)
          have hrS2 : rS < (subL l p).length := by rw [← HNS.out]; exact hrS
          have hkS := (hcS2 rS hrS2).elim fun K h => h.elim fun c h => h.1
          rw [show ((subL l p)[rS]).kd = kd by simp only [HRS.out]; exact hkd1] at hkS
          clear hcS2 hkd1 hrS1 hrS2
          obtain ⟨dT, hdT⟩ : ∃ dT, dT = dpt l r := ⟨_, rfl⟩
          have hle1 : decide ((dS : Int) ≤ (dT : Int)) = true := decide_eq_true (by have := dp_root HS.out hpl2; omega)
          have hle2 : decide ((nS : Int) ≤ (n : Int)) = true := decide_eq_true (by have h1 := HNS.out; rw [subL_len hpl2] at h1; omega)
          have hkk : (kd == kd) = true := by simp
          obtain ⟨b1, hq1⟩ : ∃ b1, ((dS : Int) == 1) = b1 := ⟨_, rfl⟩
          obtain ⟨b2, hq2⟩ : ∃ b2, ((ks.length : Int) == 0) = b2 := ⟨_, rfl⟩
          have hq3 : (b1 == b2) = true := by
            have h1 := dp_one HS.out hpl2
            rw [HKA.out, ← hdS, ← List.length_eq_zero_iff] at h1
            rw [← hq1, ← hq2, beq_iff_eq, Bool.eq_iff_iff, beq_iff_eq, beq_iff_eq]
            omega
          have HSS := Lib.hid (fun (w' : World) (h : Cl wr w') => (sound_any (some ⟨bS, oS, none⟩) cS nS (subL l p) (rS : Int) w' (hNS.below h) HNS.out (subL_ks HOK.out)).mono (R' := fun e w'' => e = .returned (.bool true) ∧ Cl wr w'') (fun e w'' ⟨he, hb⟩ => ⟨by rw [he, HRS.out, sndB_true (subL_snd HS.out hpl2)], h.trans hb⟩))
          have HDS2 := Lib.hid (fun (w' : World) (h : Cl wr w') => (HDPS.out w' h).mono (R' := fun e w'' => e = .returned (.int .i64 (dS : Int)) ∧ Cl wr w'') (fun e w'' ⟨he, hb⟩ => ⟨he, h.trans hb⟩))
          have HDT := Lib.hid (fun (w' : World) (h : Cl wr w') => (depth_any (some ⟨bA, off, none⟩) c n l r w' (hTN.below h) HL.out HOK.out).mono (R' := fun e w'' => e = .returned (.int .i64 (dT : Int)) ∧ Cl wr w'') (fun e w'' ⟨he, hb⟩ => ⟨by rw [he, hdT], h.trans hb⟩))
          have HBW := Lib.hid (show Below w.heap.size w wr from bt hLW.2.2 hbw)
          clear HDPS hdT hdS
          go_upto_region 14 with (fail)
          refine q_region (by kernel_rfl) ?_
          refine q_load rfl rfl (fun w' h => run_load30 (hU.below h hU.lt)) ?_
          simp only [Act.put, List.setIfInBounds_toArray, List.set_cons_zero, List.set_cons_succ]
          refine q_call own15 rfl (args := #[.agg #[.slice (some ⟨bS, oS, none⟩) nS cS, .int .i64 (rS : Int)]]) (v := .bool true) rfl (fun w' h => (HSS.out w' h)) ?_
          simp only [Act.put, List.setIfInBounds_toArray, List.set_cons_zero, List.set_cons_succ]
          refine q_move rfl rfl ?_
          simp only [Act.put, List.setIfInBounds_toArray, List.set_cons_zero, List.set_cons_succ]
          refine q_load rfl rfl (fun w' h => run_load30 (hU.below h hU.lt)) ?_
          simp only [Act.put, List.setIfInBounds_toArray, List.set_cons_zero, List.set_cons_succ]
          refine q_call own19 rfl (args := #[.agg #[.slice (some ⟨bS, oS, none⟩) nS cS, .int .i64 (rS : Int)]]) (v := .int .i64 (dS : Int)) rfl (fun w' h => (HDS2.out w' h)) ?_
          simp only [Act.put, List.setIfInBounds_toArray, List.set_cons_zero, List.set_cons_succ]
          refine q_load rfl rfl (fun w' h => run_load30 (hT.below h hT.lt)) ?_
          simp only [Act.put, List.setIfInBounds_toArray, List.set_cons_zero, List.set_cons_succ]
          refine q_call own19 rfl (args := #[.agg #[.slice (some ⟨bA, off, none⟩) n c, .int .i64 r]]) (v := .int .i64 (dT : Int)) rfl (fun w' h => (HDT.out w' h)) ?_
          simp only [Act.put, List.setIfInBounds_toArray, List.set_cons_zero, List.set_cons_succ]
          refine q_leqI rfl rfl rfl hle1 ?_
          simp only [Act.put, List.setIfInBounds_toArray, List.set_cons_zero, List.set_cons_succ]
          refine q_pick rfl rfl rfl ?_
          simp only [Act.put, List.setIfInBounds_toArray, List.set_cons_zero, List.set_cons_succ]
          refine q_move rfl rfl ?_
          simp only [Act.put, List.setIfInBounds_toArray, List.set_cons_zero, List.set_cons_succ]
          refine q_field rfl rfl (run_field30_0 _) ?_
          simp only [Act.put, List.setIfInBounds_toArray, List.set_cons_zero, List.set_cons_succ]
          refine q_load rfl rfl (fun w' h => run_load28 ((hU.below h hU.lt).cell 0)) ?_
          simp only [Act.put, List.setIfInBounds_toArray, List.set_cons_zero, List.set_cons_succ]
          refine q_len (.inr rfl) rfl rfl ?_
          simp only [Act.put, List.setIfInBounds_toArray, List.set_cons_zero, List.set_cons_succ]
          refine q_field rfl rfl (run_field30_0 _) ?_
          simp only [Act.put, List.setIfInBounds_toArray, List.set_cons_zero, List.set_cons_succ]
          refine q_load rfl rfl (fun w' h => run_load28 ((hT.below h hT.lt).cell 0)) ?_
          simp only [Act.put, List.setIfInBounds_toArray, List.set_cons_zero, List.set_cons_succ]
          refine q_len (.inr rfl) rfl rfl ?_
          simp only [Act.put, List.setIfInBounds_toArray, List.set_cons_zero, List.set_cons_succ]
          refine q_leqI rfl rfl rfl hle2 ?_
          simp only [Act.put, List.setIfInBounds_toArray, List.set_cons_zero, List.set_cons_succ]
          refine q_pick rfl rfl rfl ?_
          simp only [Act.put, List.setIfInBounds_toArray, List.set_cons_zero, List.set_cons_succ]
          refine q_move rfl rfl ?_
          simp only [Act.put, List.setIfInBounds_toArray, List.set_cons_zero, List.set_cons_succ]
          refine q_field rfl rfl (run_field30_0 _) ?_
          simp only [Act.put, List.setIfInBounds_toArray, List.set_cons_zero, List.set_cons_succ]
          refine q_load rfl rfl (fun w' h => run_load28 ((hU.below h hU.lt).cell 0)) ?_
          simp only [Act.put, List.setIfInBounds_toArray, List.set_cons_zero, List.set_cons_succ]
          refine q_field rfl rfl (run_field30_1 _) ?_
          simp only [Act.put, List.setIfInBounds_toArray, List.set_cons_zero, List.set_cons_succ]
          refine q_load rfl rfl (fun w' h => run_load3 ((hU.below h hU.lt).cell 1)) ?_
          simp only [Act.put, List.setIfInBounds_toArray, List.set_cons_zero, List.set_cons_succ]
          refine q_index rfl rfl rfl (run_index28 _ _ _ _ _ hrS) ?_
          simp only [Act.put, List.setIfInBounds_toArray, List.set_cons_zero, List.set_cons_succ]
          refine q_field rfl rfl (run_field24_0 _ _) ?_
          simp only [Act.put, List.setIfInBounds_toArray, List.set_cons_zero, List.set_cons_succ]
          refine q_load rfl rfl (fun w' h => run_load3 ((Below.cell h (p := ⟨bS, oS + rS * 5, none⟩) hbS).trans hkS)) ?_
          simp only [Act.put, List.setIfInBounds_toArray, List.set_cons_zero, List.set_cons_succ]
          refine q_field rfl rfl (run_field24_0 _ _) ?_
          simp only [Act.put, List.setIfInBounds_toArray, List.set_cons_zero, List.set_cons_succ]
          refine q_load rfl rfl (fun w' h => run_load3 ((Below.cell h (p := ⟨g8, 0, none⟩) hX.lt).trans x0)) ?_
          simp only [Act.put, List.setIfInBounds_toArray, List.set_cons_zero, List.set_cons_succ]
          refine q_eqlI rfl rfl rfl hkk ?_
          simp only [Act.put, List.setIfInBounds_toArray, List.set_cons_zero, List.set_cons_succ]
          refine q_pick rfl rfl rfl ?_
          simp only [Act.put, List.setIfInBounds_toArray, List.set_cons_zero, List.set_cons_succ]
          refine q_move rfl rfl ?_
          simp only [Act.put, List.setIfInBounds_toArray, List.set_cons_zero, List.set_cons_succ]
          refine q_load rfl rfl (fun w' h => run_load30 (hU.below h hU.lt)) ?_
          simp only [Act.put, List.setIfInBounds_toArray, List.set_cons_zero, List.set_cons_succ]
          refine q_call own19 rfl (args := #[.agg #[.slice (some ⟨bS, oS, none⟩) nS cS, .int .i64 (rS : Int)]]) (v := .int .i64 (dS : Int)) rfl (fun w' h => (HDS2.out w' h)) ?_
          simp only [Act.put, List.setIfInBounds_toArray, List.set_cons_zero, List.set_cons_succ]
          refine q_eqlI rfl rfl rfl hq1 ?_
          simp only [Act.put, List.setIfInBounds_toArray, List.set_cons_zero, List.set_cons_succ]
          refine q_field rfl rfl (run_field24_4 _ 0) ?_
          simp only [Act.put, List.setIfInBounds_toArray, List.set_cons_zero, List.set_cons_succ]
          refine q_load rfl rfl (fun w' h => run_load22 ((Below.cell h (p := ⟨g8, 4, none⟩) hX.lt).trans x4)) ?_
          simp only [Act.put, List.setIfInBounds_toArray, List.set_cons_zero, List.set_cons_succ]
          refine q_len (.inl rfl) rfl rfl ?_
          simp only [Act.put, List.setIfInBounds_toArray, List.set_cons_zero, List.set_cons_succ]
          refine q_eqlI rfl rfl rfl hq2 ?_
          simp only [Act.put, List.setIfInBounds_toArray, List.set_cons_zero, List.set_cons_succ]
          refine q_eqlB rfl rfl rfl hq3 ?_
          simp only [Act.put, List.setIfInBounds_toArray, List.set_cons_zero, List.set_cons_succ]
          refine q_pick rfl rfl rfl ?_
          simp only [Act.put, List.setIfInBounds_toArray, List.set_cons_zero, List.set_cons_succ]
          refine q_assign rfl rfl ?_
          simp only [Act.put, List.setIfInBounds_toArray, List.set_cons_zero, List.set_cons_succ]
          intro w' hw'
          go_wp2
          go_ret
          exact ⟨rfl, bt HBW.out hw'⟩
    · rw [sndB_false hS] at HSN
      clear hS
      go_wp2_with (go_at_call 15; refine HSN.out.mono ?_)
      rintro e w3 ⟨rfl, hb5⟩
      go_wp2
      go_ret
      exact ⟨rfl, bt H2.out.2.2 hb5⟩
end Go.Proofs.Ytcnmkmdedeiffaa
