/- PROVED here: the walk of TreeBuilds. No condition but those in each theorem's own head. -/
import Derived.Test.YtcnmkmdedeiffaaBc
import Derived.Test.YtcnmkmdedeiffaaT
import Derived.Test.YtcnmkmdedeiffaaX
namespace Go.Proofs.Ytcnmkmdedeiffaa
open Go Go.RowKit

/-- what lies in memory: the two boxes and the arguments -/
structure LB (w : World) (tv nv : List Value) (A : Option Addr) (l : List Nd) (B : Option Addr) (ts : List Tr) (W : World) : Prop where
  t : Bx W w.heap.size 30 tv
  n : Bx W (w.heap.size + 1) 24 nv
  a : Nds W A l
  k : Trs W B ts
  b : Below w.heap.size w W
theorem LB.below {w W W' : World} {tv nv : List Value} {A B : Option Addr} {l : List Nd} {ts : List Tr} (h : LB w tv nv A l B ts W) (hb : Below W.heap.size W W') : LB w tv nv A l B ts W' := ⟨h.t.below hb h.t.lt, h.n.below hb h.n.lt, h.a.below hb, h.k.below hb, bt h.b hb⟩
theorem LB.alloc {w W : World} {tv nv : List Value} {A B : Option Addr} {l : List Nd} {ts : List Tr} (h : LB w tv nv A l B ts W) (o : Obj) : LB w tv nv A l B ts (W.alloc o) := h.below (heap1 _ _)
theorem run_load24 {w : World} {b : Nat} {a1 a2 a3 : Int} {s : ByteArray} {n c : Nat} {A : Option Addr} (h : Bx w b 24 [.int .i64 a1, .int .i64 a2, .int .i64 a3, .string s, .slice A n c]) : (Instr.loadAt 24 (.pointer (some ⟨b, 0, none⟩))).run Try.prog w = .ok (.agg #[.int .i64 a1, .int .i64 a2, .int .i64 a3, .string s, .slice A n c]) w := by
  have h0 := h.cell 0
  have h1 := h.cell 1
  have h2 := h.cell 2
  have h3 := h.cell 3
  have h4 := h.cell 4
  simp only [List.getElem?_cons_zero, List.getElem?_cons_succ] at h0 h1 h2 h3 h4
  simp [go_sem, h0, h1, h2, h3, h4]
theorem deepT_snoc (ts : List Tr) (t : Tr) : deepT (ts ++ [t]) = max (deepT ts) (dpt t.1 t.2) := by unfold deepT; rw [List.foldl_append]; rfl
theorem dpt_le (l : List Nd) (r : Int) : dpt l r ≤ 4000 := by
  by_cases h : Snd l r
  · rw [dpt_yes h]
    have h1 : 1 ≤ l.length := h.elim fun _ h => h.1
    exact dp_le h (by omega)
  · rw [dpt_no h]; omega
/-- the trees that are good -/
def GS (wz : World) (i : Nat) (gs : List AT) : Prop := gs.length ≤ i ∧ ∀ x ∈ gs, Nds wz x.A x.t.1 ∧ x.t.1.length ≤ x.c ∧ Snd x.t.1 x.t.2 ∧ OkT x.t
theorem set_grown (w : World) (k i : Nat) (u : Value) : w.grownBy (w.setCell ⟨k, i, none⟩ u) (some k) := ⟨rfl, rfl, rfl, by rw [World.size_setCell]; exact Nat.le_refl _, fun j _ hj => heap_setCell_other w _ j _ (fun e => hj (congrArg some e))⟩
section
variable {ops : Array Oper} {C : World → Prop} {Q : Act → Prop} {rest : List Oper} {d : Option Tmp} {ty : TypeId} {p : String} {af : Array Edge} {gd : Option (Nat × Bool)} {a : Act}
theorem q_geqI {x y : Operand} {u v : Int} {b : Bool} (hw : Region.wanted ⟨d, .binOp .geq 3 x y 3, ty, p, af, gd⟩ (yielded ops a.tmps) = true) (hx : a.eval x = .int .i64 u) (hy : a.eval y = .int .i64 v) (hb : decide (v ≤ u) = b)
    (h : wpQuiet Try.prog ops C Q rest (a.put d (.bool b))) : wpQuiet Try.prog ops C Q (⟨d, .binOp .geq 3 x y 3, ty, p, af, gd⟩ :: rest) a :=
  q_bin hw hx hy (fun w => by simp [go_sem]) (fun w => by simp [go_sem, hb]) h
theorem q_not {x : Operand} {u b : Bool} (hw : Region.wanted ⟨d, .unOp .not 4 x, ty, p, af, gd⟩ (yielded ops a.tmps) = true) (hx : a.eval x = .bool u) (hb : (!u) = b)
    (h : wpQuiet Try.prog ops C Q rest (a.put d (.bool b))) : wpQuiet Try.prog ops C Q (⟨d, .unOp .not 4 x, ty, p, af, gd⟩ :: rest) a :=
  q_op hw (fun w _ => by
    unfold Oper.quietAt execOp
    have : (Op.unary .not (.bool u)).run Try.prog w = .ok (.bool b) w := by subst hb; simp [go_sem]
    simp only [hx, Sem.run_bind, this, Sem.run_pure, Result.andThen_ok]
    exact ⟨rfl, rfl⟩) h
theorem q_pickF {c x y : Operand} {v : Value} (hw : Region.wanted ⟨d, .pick c x y, ty, p, af, gd⟩ (yielded ops a.tmps) = true) (hc : a.eval c = .bool false) (hx : a.eval y = v)
    (h : wpQuiet Try.prog ops C Q rest (a.put d v)) : wpQuiet Try.prog ops C Q (⟨d, .pick c x y, ty, p, af, gd⟩ :: rest) a :=
  q_op hw (fun w _ => by unfold Oper.quietAt execOp; simp [hc, hx, asBool, Oper.quietUpon]) h
end
theorem ovA_take (ts : List Tr) (j : Nat) : (ovA (ts.take j)).length ≤ (ovA ts).length := by
  have h1 : ovA ts = (ts.drop j).foldl stepO (ovA (ts.take j)) := by
    conv => lhs; rw [← List.take_append_drop j ts]
    rw [ovA_eq, ovA_eq, List.foldl_append]
  rw [h1]; exact fold_len _ _
/-- the trees of kids that have been made -/
def XI (wr : World) (xs : List AT) : Prop := ∀ x ∈ xs, ∃ y : OT, y.Ok wr ∧ x.A = some ⟨y.g, 0, none⟩ ∧ x.t.1 = y.l ∧ x.c = y.c
theorem XI.below {wr wr' : World} {xs : List AT} (h : XI wr xs) (hb : Below wr.heap.size wr wr') : XI wr' xs := fun x hx => by
  obtain ⟨y, h1, h2⟩ := h x hx
  exact ⟨y, h1.below hb, h2⟩
theorem XI.keep {wr wr' : World} {xs : List AT} {row : Option Nat} (h : XI wr xs) (hg : wr.grownBy wr' row) (hr : ∀ g, row = some g → ∃ cs, wr.heap[g]? = some (.cells cs 30 (0, 0))) : XI wr' xs := fun x hx => by
  obtain ⟨y, h1, h2⟩ := h x hx
  exact ⟨y, h1.keep hg hr, h2⟩
theorem max_if (a b : Nat) : (if a < b then (b : Int) else (a : Int)) = ((max a b : Nat) : Int) := by split <;> omega
set_option maxRecDepth 100000 in
set_option maxHeartbeats 1500000 in
theorem treeBuilds_any (A : Option Addr) (c n : Nat) (l : List Nd) (r : Int) (x : Nd) (K : Option Addr) (ck : Nat) (B : Option Addr) (cB m : Nat) (ts : List Tr) (w : World) (hN : Nds w A l) (hn : n = l.length) (hc : n ≤ c) (_hI : Ints w K x.ks) (hT : Trs w B ts) (hm : m = ts.length) :
    Calls Try.prog 5 #[.agg #[.slice A n c, .int .i64 r], .agg #[.int .i64 x.kd, .int .i64 x.n, .int .i64 x.pl, .string x.tx, .slice K x.ks.length ck], .slice B m cB] w (TruePost w) := by
  clear _hI
  have e0 : ∀ (w' : World) (o : Obj), (w'.alloc o).heap.size = w'.heap.size + 1 := fun w' o => World.size_alloc w' o
  obtain ⟨kd, nn, pl, tx, ks⟩ := x
  dsimp only
  generalize ks.length = kl at *
  have HL := Lib.hid hn
  have HM := Lib.hid hm
  have H0 := Lib.hid (show LB w [.slice A n c, .int .i64 r] [.int .i64 kd, .int .i64 nn, .int .i64 pl, .string tx, .slice K kl ck] A l B ts ((w.alloc (.cells #[.slice A n c, .int .i64 r] 30)).alloc (.cells #[.int .i64 kd, .int .i64 nn, .int .i64 pl, .string tx, .slice K kl ck] 24)) from by
    have hb := (heap1 w (.cells #[.slice A n c, .int .i64 r] 30)).alloc (by rw [e0]; omega) (.cells #[.int .i64 kd, .int .i64 nn, .int .i64 pl, .string tx, .slice K kl ck] 24)
    refine ⟨(Bx.new w 30 _).alloc _, ?_, hN.below hb, hT.below hb, hb⟩
    have := Bx.new (w.alloc (.cells #[.slice A n c, .int .i64 r] 30)) 24 [.int .i64 kd, .int .i64 nn, .int .i64 pl, .string tx, .slice K kl ck]
    rw [e0] at this; exact this)
  clear hn hm hN hT
  go_enter Try.func5, Try.ntmps5
  go_wp2_with (go_at_call 8; refine (shown_any _).mono ?_)
  rintro e w1 ⟨rfl, hb1⟩
  have h1 := H0.out.below hb1
  clear H0 hb1
  have d0 := h1.t.cell 0
  have d1 := h1.t.cell 1
  simp only [List.getElem?_cons_zero, List.getElem?_cons_succ] at d0 d1
  have HSM := Lib.hid (small_any (some ⟨w1.heap.size, 0, none⟩) 1 1 [(l, r)] _ (trs_one (r := r) h1.a HL.out hc) rfl)
  have H1 := Lib.hid (h1.alloc (.cells #[.slice A n c, .int .i64 r] 30))
  clear h1
  go_wp2_with (go_at_call 9; refine HSM.out.mono ?_)
  rintro e w2 ⟨hb4, bb, rfl, hsm⟩
  have h2 := H1.out.below hb4
  clear HSM hb4 H1 d0 d1
  have HSM2 := Lib.hid (small_any B m cB ts w2 h2.k HM.out)
  have H2 := Lib.hid h2
  clear h2
  go_wp2_with (go_at_call 9; refine HSM2.out.mono ?_)
  rintro e w3 ⟨hb5, bb2, rfl, hsm2⟩
  have h3 := H2.out.below hb5
  clear HSM2 hb5 H2
  have t3 := h3.n.cell 3
  simp only [List.getElem?_cons_zero, List.getElem?_cons_succ] at t3
  have H3 := Lib.hid h3
  clear h3
  cases bb with
  | false =>
    clear hsm hsm2
    go_wp2
    go_ret
    exact ⟨rfl, H3.out.b⟩
  | true =>
    cases bb2 with
    | false =>
      clear hsm hsm2
      go_wp2
      go_ret
      exact ⟨rfl, H3.out.b⟩
    | true =>
      by_cases htx : (200 : Int) < (tx.size : Int)
      · have hd : decide ((200 : Int) < (tx.size : Int)) = true := decide_eq_true htx
        clear hsm hsm2
        go_wp2
        go_ret
        exact ⟨rfl, H3.out.b⟩
      · have hd : decide ((200 : Int) < (tx.size : Int)) = false := decide_eq_false htx
        have hok := (hsm rfl).2 _ List.mem_cons_self
        obtain ⟨hm30, hok2⟩ := hsm2 rfl
        have hm30' : m ≤ 30 := by rw [HM.out]; exact hm30
        have hn200 : n ≤ 200 := by rw [HL.out]; exact hok.1
        have HOK := Lib.hid hok
        have HOK2 := Lib.hid hok2
        clear hsm hsm2 hok hok2 hm30
        have d0 := H3.out.t.cell 0
        have d1 := H3.out.t.cell 1
        simp only [List.getElem?_cons_zero, List.getElem?_cons_succ] at d0 d1
        obtain ⟨t0, ti, tz0, tz1, tz2⟩ := info_parts info30
        have HSN := Lib.hid (sound_any A c n l r w3 H3.out.a HL.out (okT_ks HOK.out))
        by_cases hS : Snd l r
        · rw [sndB_true hS] at HSN
          have HS := Lib.hid hS
          clear hS
          obtain ⟨b, h1, h2, h3, h4, h5⟩ := HS.out
          rw [← HL.out] at h1 h2 h3
          obtain ⟨n', hn'⟩ : ∃ n', n' = n - 1 := ⟨_, rfl⟩
          have hr : r = (n' : Int) := by omega
          have hnn : n' < n := by omega
          have HN' := Lib.hid hn'
          clear h3 h4 h5 hn' h2
          subst hr
          have hpl2 : n' < l.length := by rw [← HL.out]; exact hnn
          go_upto_region 7 with (first | (go_at_call 15; refine HSN.out.mono ?_; rintro e w4 ⟨rfl, hb5⟩))
          have h4 := H3.out.below hb5
          clear HSN H3 hb5 d0 d1
          have d0 := h4.t.cell 0
          have d1 := h4.t.cell 1
          simp only [List.getElem?_cons_zero, List.getElem?_cons_succ] at d0 d1
          obtain ⟨bA, off, rfl, hbA, hcA⟩ := h4.a (by omega)
          obtain ⟨RK, rc, c0, c1, c2, c3, c4, hI⟩ := hcA n' hpl2
          have HKA := Lib.hid (kidsAt_eq hpl2)
          have HGE := Lib.hid (show l[l.length - 1]? = some l[n'] by rw [← HL.out, ← HN'.out]; exact List.getElem?_eq_getElem hpl2)
          have hks : l[n'].ks.length ≤ 200 := (HOK.out.2 _ (List.getElem_mem hpl2)).1
          clear hcA
          generalize l[n'] = x at *
          obtain ⟨xk, xn, xp, xt, rk⟩ := x
          dsimp only at c0 c1 c2 c3 c4 hI hks HKA
          have H4 := Lib.hid h4
          clear h4
          go_upto_region 8 with (fail)
          refine gen_world (fun W => LB w [.slice (some ⟨bA, off, none⟩) n c, .int .i64 (n' : Int)] [.int .i64 kd, .int .i64 nn, .int .i64 pl, .string tx, .slice K kl ck] (some ⟨bA, off, none⟩) l B ts W ∧ Bx W w4.heap.size 24 [.int .i64 xk, .int .i64 xn, .int .i64 xp, .string xt, .slice RK rk.length rc] ∧ Ints W RK rk) ⟨H4.out.alloc _, Bx.new w4 24 _, hI.below (heap1 _ _)⟩ ?_
          clear H4 c0 c1 c2 c3 c4 d0 d1 hI hbA
          obtain ⟨g10, hg10⟩ : ∃ g10, g10 = w4.heap.size := ⟨_, rfl⟩
          rw [← hg10]
          clear hg10
          rintro W5 ⟨hLB, hX5, hI5⟩
          have HA := Lib.hid (And.intro hLB (And.intro hX5 hI5))
          clear hLB hX5 hI5
          go_wp2
          go_loopw [11, 12] (fun v iv wr => ∃ (i : Nat) (xs : List AT), i ≤ rk.length ∧ iv = .int .i64 (i : Int) ∧ wr.ownsRow W5.heap.size 30 2 v i (tfl xs) ∧ xs.map AT.t = subTs l (rk.take i) ∧ XI wr xs ∧ Below W5.heap.size W5 wr) (fun _ iv _ => rk.length - (intOf iv).toNat)
          case atStart => exact ⟨0, [], Nat.zero_le _, rfl, World.ownsRow_nil _ _ _ _, rfl, fun x hx => (by cases hx), Below.refl _ _⟩
          case round =>
          obtain ⟨i, xs, hi, rfl, hown, hxs, hXI, hbw⟩ := hrel
          obtain ⟨AL, cL, rfl⟩ := own_sliceG hown
          obtain ⟨hLB, hX5, hI5⟩ := HA.out
          have hZB := hLB.below hbw
          have hT := hZB.t
          have hTN := hZB.a
          have hX := hX5.below hbw hX5.lt
          have hIK := hI5.below hbw
          have x4 := hX.cell 4
          simp only [List.getElem?_cons_zero, List.getElem?_cons_succ] at x4
          obtain ⟨r, hr⟩ : ∃ r : Int, r = (n' : Int) := ⟨_, rfl⟩
          rw [← hr] at hT hZB HS ⊢
          have HRR := Lib.hid hr
          clear hr
          by_cases hlt : i < rk.length
          · have hlz : (i : Int) < (rk.length : Int) := by omega
            obtain ⟨bK, oK, rfl, hbK, hcK⟩ := hIK (by omega)
            have hck := hcK i hlt
            have hik : i < rk.length := hlt
            obtain ⟨p, hp, hpp⟩ : ∃ p : Nat, rk[i] = p ∧ p < l.length ∧ dpL l l.length p < dpL l l.length n' := by
              have hmem : rk[i] ∈ kidsAt l n' := by rw [HKA.out]; exact List.getElem_mem _
              obtain ⟨b, hb⟩ := HS.out
              obtain ⟨p, e, _⟩ := hb.2.2.2.1.kid hpl2 hmem
              rw [e] at hmem
              exact ⟨p, e, dp_kid HS.out hpl2 hmem⟩
            have HTI := Lib.hid (show subTs l (rk.take (i + 1)) = subTs l (rk.take i) ++ [(subL l p, (subR l p : Int))] by
              rw [List.take_succ_eq_append_getElem hlt, hp]; unfold subTs; rw [List.map_append]; rfl)
            rw [hp] at hck
            clear hcK hp
            have HSUB := Lib.hid (fun (w' : World) (h : Cl wr w') => (sub_own (some ⟨bA, off, none⟩) c n l r p w' (hTN.below h) HL.out hc (okT_ks HOK.out) HS.out (by rw [HL.out]; exact hpp.1)).mono (R' := fun e w'' => ∃ v, e = .returned v ∧ ∃ y : OT, v = .agg #[y.v, .int .i64 (subR l p : Int)] ∧ y.Ok w'' ∧ y.l = subL l p ∧ Below w'.heap.size w' w'') (fun e w'' ⟨y, he, h1, h2, h3⟩ => ⟨_, he, y, rfl, h1, h2, h3⟩))
            have HSZ := Lib.hid (show wr.heap.size ≤ ({ wr with drawn := wr.drawn + 1 } : World).heap.size from Nat.le_refl _)
            obtain ⟨dT, hdT⟩ : ∃ dT, dT = dpt l r := ⟨_, rfl⟩
            have hdec : decide ((dT : Int) ≤ (dpL l l.length p : Int)) = false := decide_eq_false (by
              rw [hdT, dpt_yes HS.out]
              have h9 : l.length - 1 = n' := by rw [← HL.out, HN'.out]
              rw [h9]; omega)
            go_upto_region 12 with (fail)
            refine wp_region_held (S := Cl wr) (by kernel_rfl) ?_
            have hS : Cl wr { wr with drawn := wr.drawn + 1 } := ⟨rfl, rfl, rfl, Nat.le_refl _, fun _ _ => rfl⟩
            refine h_pure 0 ({ dst := some 57, op := Op.load 30 (Operand.tmp 3), type := 30, pos := "law.go:112", after := #[], guard := none } : Oper) (.agg #[.slice (some ⟨bA, off, none⟩) n c, .int .i64 r]) (by kernel_rfl) rfl (by kernel_rfl) (by kernel_rfl) (fun _ _ _ h => h) rfl (y_load rfl rfl (fun w' h => run_load30 (hT.below h hT.lt))) hS ?_
            simp only [Act.put, List.setIfInBounds_toArray, List.set_cons_zero, List.set_cons_succ]
            refine h_pure 1 ({ dst := some 58, op := Op.fieldAddr 24 (Operand.tmp 10) 4, type := 0, pos := "law.go:112", after := #[], guard := none } : Oper) (.pointer (some ⟨g10, 4, none⟩)) (by kernel_rfl) rfl (by kernel_rfl) (by kernel_rfl) (fun _ _ _ h => h) rfl (y_field rfl rfl (run_field24_4 _ 0)) hS ?_
            simp only [Act.put, List.setIfInBounds_toArray, List.set_cons_zero, List.set_cons_succ]
            refine h_pure 2 ({ dst := some 59, op := Op.load 22 (Operand.tmp 58), type := 22, pos := "law.go:112", after := #[{ on := 1, ground := Ground.data }], guard := none } : Oper) (.slice (some ⟨bK, oK, none⟩) rk.length rc) (by kernel_rfl) rfl (by kernel_rfl) (by kernel_rfl) (fun _ _ _ h => h) rfl (y_load rfl rfl (fun w' h => run_load22 ((Below.cell h (p := ⟨g10, 4, none⟩) hX.lt).trans x4))) hS ?_
            simp only [Act.put, List.setIfInBounds_toArray, List.set_cons_zero, List.set_cons_succ]
            refine h_pure 3 ({ dst := some 60, op := Op.move (Operand.tmp 12), type := 3, pos := "law.go:112", after := #[], guard := none } : Oper) (.int .i64 (i : Int)) (by kernel_rfl) rfl (by kernel_rfl) (by kernel_rfl) (fun _ _ _ h => h) rfl (y_move rfl rfl) hS ?_
            simp only [Act.put, List.setIfInBounds_toArray, List.set_cons_zero, List.set_cons_succ]
            refine h_pure 4 ({ dst := some 61, op := Op.indexAddr 22 (Operand.tmp 59) (Operand.tmp 60), type := 0, pos := "law.go:112", after := #[{ on := 2, ground := Ground.data }, { on := 3, ground := Ground.data }], guard := none } : Oper) (.pointer (some ⟨bK, oK + i, none⟩)) (by kernel_rfl) rfl (by kernel_rfl) (by kernel_rfl) (fun _ _ _ h => h) rfl (y_index rfl rfl rfl (run_index22 _ _ _ _ _ hik)) hS ?_
            simp only [Act.put, List.setIfInBounds_toArray, List.set_cons_zero, List.set_cons_succ]
            refine h_pure 5 ({ dst := some 62, op := Op.load 3 (Operand.tmp 61), type := 3, pos := "law.go:112", after := #[{ on := 4, ground := Ground.data }], guard := none } : Oper) (.int .i64 (p : Int)) (by kernel_rfl) rfl (by kernel_rfl) (by kernel_rfl) (fun _ _ _ h => h) rfl (y_load rfl rfl (fun w' h => run_load3 ((Below.cell h (p := ⟨bK, oK + i, none⟩) hbK).trans hck))) hS ?_
            simp only [Act.put, List.setIfInBounds_toArray, List.set_cons_zero, List.set_cons_succ]
            refine h_two 6 7 ({ dst := some 63, op := Op.call { callee := Callee.value (Operand.func 24), args := #[Operand.tmp 57, Operand.tmp 62], argTypes := #[30, 3] }, type := 30, pos := "law.go:112", after := #[{ on := 0, ground := Ground.data }, { on := 5, ground := Ground.data }], guard := none } : Oper) ({ dst := some 13, op := Op.alloc 30, type := 0, pos := "law.go:112", after := #[], guard := none } : Oper) rfl rfl (by kernel_rfl) rfl rfl ?_ ?_
            · refine call_wp (o := ({ dst := some 63, op := Op.call { callee := Callee.value (Operand.func 24), args := #[Operand.tmp 57, Operand.tmp 62], argTypes := #[30, 3] }, type := 30, pos := "law.go:112", after := #[{ on := 0, ground := Ground.data }, { on := 5, ground := Ground.data }], guard := none } : Oper)) (args := #[.agg #[.slice (some ⟨bA, off, none⟩) n c, .int .i64 r], .int .i64 (p : Int)]) own24 rfl rfl (HSUB.out _ hS) ?_
              rintro v W2 ⟨y, rfl, hyo, hyl, hbM⟩
              have hS := hS.trans hbM
              refine ⟨hS, ?_⟩
              simp only [Act.put, List.setIfInBounds_toArray, List.set_cons_zero, List.set_cons_succ]
              refine h_one 7 ({ dst := some 13, op := Op.alloc 30, type := 0, pos := "law.go:112", after := #[], guard := none } : Oper) rfl (by kernel_rfl) rfl ?_
              refine alloc_wp (o := ({ dst := some 13, op := Op.alloc 30, type := 0, pos := "law.go:112", after := #[], guard := none } : Oper)) rfl ?_
              have hB13 := Bx.new W2 30 [.slice none 0 0, .int .i64 0]
              have hyo := hyo.below (heap1 W2 (.cells #[.slice none 0 0, .int .i64 0] 30))
              have hS := hS.trans (heap1 W2 (.cells #[.slice none 0 0, .int .i64 0] 30))
              refine ⟨hS, ?_⟩
              simp only [Act.put, List.setIfInBounds_toArray, List.set_cons_zero, List.set_cons_succ]
              obtain ⟨g13, hg13⟩ : ∃ g13, g13 = W2.heap.size := ⟨_, rfl⟩
              have hgz : wr.heap.size ≤ g13 := by have := hbM.size; have := HSZ.out; omega
              rw [← hg13] at hB13 ⊢
              clear hg13
              refine h_one 8 ({ dst := none, op := Op.store 30 (Operand.tmp 13) (Operand.tmp 63), type := 0, pos := "law.go:112", after := #[{ on := 7, ground := Ground.data }, { on := 6, ground := Ground.data }, { on := 6, ground := Ground.chain }, { on := 0, ground := Ground.phase }, { on := 1, ground := Ground.phase }, { on := 2, ground := Ground.phase }, { on := 3, ground := Ground.phase }, { on := 4, ground := Ground.phase }, { on := 5, ground := Ground.phase }, { on := 6, ground := Ground.phase }, { on := 7, ground := Ground.phase }], guard := none } : Oper) rfl (by kernel_rfl) rfl ?_
              refine store_wp (o := ({ dst := none, op := Op.store 30 (Operand.tmp 13) (Operand.tmp 63), type := 0, pos := "law.go:112", after := #[{ on := 7, ground := Ground.data }, { on := 6, ground := Ground.data }, { on := 6, ground := Ground.chain }, { on := 0, ground := Ground.phase }, { on := 1, ground := Ground.phase }, { on := 2, ground := Ground.phase }, { on := 3, ground := Ground.phase }, { on := 4, ground := Ground.phase }, { on := 5, ground := Ground.phase }, { on := 6, ground := Ground.phase }, { on := 7, ground := Ground.phase }], guard := none } : Oper)) (A := some ⟨y.g, 0, none⟩) (n := y.n) (c := y.c) (r := (subR l p : Int)) rfl rfl rfl hB13 ?_
              have hB14 := (hB13.set_ 0 (.slice (some ⟨y.g, 0, none⟩) y.n y.c)).set_ 1 (.int .i64 (subR l p : Int))
              simp only [List.set_cons_zero, List.set_cons_succ] at hB14
              have hy2 := (hyo.keep (set_grown _ g13 0 (.slice (some ⟨y.g, 0, none⟩) y.n y.c)) (fun g e => by cases e; exact ⟨_, hB13⟩)).keep (set_grown _ g13 1 (.int .i64 (subR l p : Int))) (fun g e => by cases e; exact ⟨_, hB13.set_ 0 _⟩)
              have hS := (Below.setCell hS (p := ⟨g13, 0, none⟩) hgz (.slice (some ⟨y.g, 0, none⟩) y.n y.c)).setCell (p := ⟨g13, 1, none⟩) hgz (.int .i64 (subR l p : Int))
              refine ⟨hS, ?_⟩
              simp only [Act.put]
              refine wpAnyH_done (by kernel_rfl) ?_ _
              have HF6 := Lib.hid (And.intro hB14 (And.intro hy2 hS))
              clear hB13 hB14 hy2 hS hyo
              go_upto_region 13 with (fail)
              refine gen_world (fun W => Bx W g13 30 [.slice (some ⟨y.g, 0, none⟩) y.n y.c, .int .i64 (subR l p : Int)] ∧ y.Ok W ∧ Below wr.heap.size wr W) HF6.out ?_
              clear HF6
              rintro W6 ⟨hV6, hy6, hb6⟩
              have hT6 := hT.below hb6 hT.lt
              have hyn : y.n = (subL l p).length := by rw [← hyl]; exact hy6.len.symm
              have hyN : Nds W6 (some ⟨y.g, 0, none⟩) (subL l p) := by rw [← hyl]; exact hy6.nds
              have HSS := Lib.hid (fun (w' : World) (h : Cl W6 w') => (sound_any (some ⟨y.g, 0, none⟩) y.c y.n (subL l p) (subR l p : Int) w' (hyN.below h) hyn (subL_ks (okT_ks HOK.out))).mono (R' := fun e w'' => e = .returned (.bool true) ∧ Cl W6 w'') (fun e w'' ⟨he, hb⟩ => ⟨by rw [he, sndB_true (subL_snd HS.out hpp.1)], h.trans hb⟩))
              have HDM := Lib.hid (fun (w' : World) (h : Cl W6 w') => (depth_any (some ⟨y.g, 0, none⟩) y.c y.n (subL l p) (subR l p : Int) w' (hyN.below h) hyn (subL_ks (okT_ks HOK.out))).mono (R' := fun e w'' => e = .returned (.int .i64 (dpL l l.length p : Int)) ∧ Cl W6 w'') (fun e w'' ⟨he, hb⟩ => ⟨by rw [he, subL_dp HS.out hpp.1], h.trans hb⟩))
              have HDT := Lib.hid (fun (w' : World) (h : Cl W6 w') => (depth_any (some ⟨bA, off, none⟩) c n l r w' ((hTN.below hb6).below h) HL.out (okT_ks HOK.out)).mono (R' := fun e w'' => e = .returned (.int .i64 (dT : Int)) ∧ Cl W6 w'') (fun e w'' ⟨he, hb⟩ => ⟨by rw [he, hdT], h.trans hb⟩))
              refine q_region (by kernel_rfl) ?_
              refine q_load rfl rfl (fun w' h => run_load30 (hV6.below h hV6.lt)) ?_
              simp only [Act.put, List.setIfInBounds_toArray, List.set_cons_zero, List.set_cons_succ]
              refine q_call own15 rfl (args := #[.agg #[.slice (some ⟨y.g, 0, none⟩) y.n y.c, .int .i64 (subR l p : Int)]]) (v := .bool true) rfl (fun w' h => (HSS.out w' h)) ?_
              simp only [Act.put, List.setIfInBounds_toArray, List.set_cons_zero, List.set_cons_succ]
              refine q_not rfl rfl rfl ?_
              simp only [Act.put, List.setIfInBounds_toArray, List.set_cons_zero, List.set_cons_succ]
              refine q_move rfl rfl ?_
              simp only [Act.put, List.setIfInBounds_toArray, List.set_cons_zero, List.set_cons_succ]
              refine q_load rfl rfl (fun w' h => run_load30 (hV6.below h hV6.lt)) ?_
              simp only [Act.put, List.setIfInBounds_toArray, List.set_cons_zero, List.set_cons_succ]
              refine q_call own19 rfl (args := #[.agg #[.slice (some ⟨y.g, 0, none⟩) y.n y.c, .int .i64 (subR l p : Int)]]) (v := .int .i64 (dpL l l.length p : Int)) rfl (fun w' h => (HDM.out w' h)) ?_
              simp only [Act.put, List.setIfInBounds_toArray, List.set_cons_zero, List.set_cons_succ]
              refine q_load rfl rfl (fun w' h => run_load30 (hT6.below h hT6.lt)) ?_
              simp only [Act.put, List.setIfInBounds_toArray, List.set_cons_zero, List.set_cons_succ]
              refine q_call own19 rfl (args := #[.agg #[.slice (some ⟨bA, off, none⟩) n c, .int .i64 r]]) (v := .int .i64 (dT : Int)) rfl (fun w' h => (HDT.out w' h)) ?_
              simp only [Act.put, List.setIfInBounds_toArray, List.set_cons_zero, List.set_cons_succ]
              refine q_geqI rfl rfl rfl hdec ?_
              simp only [Act.put, List.setIfInBounds_toArray, List.set_cons_zero, List.set_cons_succ]
              refine q_pickF rfl rfl rfl ?_
              simp only [Act.put, List.setIfInBounds_toArray, List.set_cons_zero, List.set_cons_succ]
              intro w7 hw7
              have hV7 := hV6.below hw7 hV6.lt
              have v0 := hV7.cell 0
              have v1 := hV7.cell 1
              simp only [List.getElem?_cons_zero, List.getElem?_cons_succ] at v0 v1
              have hb7 : Below wr.heap.size wr w7 := bt hb6 hw7
              have hoA := own_belowG (own_belowG hown hb7) (heap1 w7 (.cells #[.slice (some ⟨y.g, 0, none⟩) y.n y.c, .int .i64 (subR l p : Int)] 30))
              have hXA := (hXI.below hb7).below (heap1 w7 (.cells #[.slice (some ⟨y.g, 0, none⟩) y.n y.c, .int .i64 (subR l p : Int)] 30))
              have hyA := (hy6.below hw7).below (heap1 w7 (.cells #[.slice (some ⟨y.g, 0, none⟩) y.n y.c, .int .i64 (subR l p : Int)] 30))
              have HYN := Lib.hid hyn
              have hb8 := bt hbw hb7
              clear HSS HDM HDT hyN hT6 hy6 hV6 hV7 hdec hyn
              go_wp2_with (first
                | (at_builtin; refine wpList_append_own _ rfl _ _ 25 rfl W5.heap.size 30 t0 (.agg #[.slice none 0 0, .int .i64 0]) 2 32 Try.underlying25 ti tz0 tz1 tz2 rfl (by decide) _ _ _ rfl hoA ⟨w7.heap.size, 0, none⟩ 1 1 [.slice (some ⟨y.g, 0, none⟩) y.n y.c, .int .i64 (subR l p : Int)] rfl rfl (blk_cells w7 [.slice (some ⟨y.g, 0, none⟩) y.n y.c, .int .i64 (subR l p : Int)] 30) (fun u hu => by simp at hu; rcases hu with rfl | rfl <;> rfl) ?c3 ?c4 ?c5 ?_))
              case c3 => unfold maxLen; omega
              case c4 => omega
              case c5 => have := hb8.size; first | omega | (rw [e0]; omega)
              intro v' w9 hown9 hgrow9 _
              have hown10 : w9.ownsRow W5.heap.size 30 2 v' (i + 1) (tfl (xs ++ [(⟨some ⟨y.g, 0, none⟩, (subL l p, (subR l p : Int)), y.c⟩ : AT)])) := by
                rw [tfl_app, show tfl [(⟨some ⟨y.g, 0, none⟩, (subL l p, (subR l p : Int)), y.c⟩ : AT)] = [.slice (some ⟨y.g, 0, none⟩) y.n y.c, .int .i64 (subR l p : Int)] by show AT.cv _ ++ [] = _; unfold AT.cv; rw [HYN.out]; rfl]
                exact hown9
              have hXB : XI w9 (xs ++ [(⟨some ⟨y.g, 0, none⟩, (subL l p, (subR l p : Int)), y.c⟩ : AT)]) := by
                have h8 : XI (w7.alloc (.cells #[.slice (some ⟨y.g, 0, none⟩) y.n y.c, .int .i64 (subR l p : Int)] 30)) (xs ++ [(⟨some ⟨y.g, 0, none⟩, (subL l p, (subR l p : Int)), y.c⟩ : AT)]) := fun z hz => by
                  rcases List.mem_append.1 hz with hz | hz
                  · exact hXA z hz
                  · obtain rfl : z = _ := List.mem_singleton.1 hz
                    exact ⟨y, hyA, rfl, hyl.symm, rfl⟩
                exact h8.keep hgrow9 (own_rowT hoA)
              have hb10 : Below W5.heap.size W5 w9 := (hb8.alloc hb8.size _).grown hgrow9 (by have := hb8.size; rw [e0]; omega) (fun b hb => (hoA.lt b hb).1)
              have HF := Lib.hid (And.intro hown10 (And.intro hXB hb10))
              clear hown9 hgrow9 hown10 hXB hb10 hoA hXA hyA
              go_wp2
              go_roundw
              case rel =>
                obtain ⟨f1, f2, f3⟩ := HF.out
                exact ⟨i + 1, _, by omega, by go_num, f1, by rw [List.map_append, hxs, HTI.out]; rfl, f2, f3⟩
              case measure => simp [intOf]; omega
            · refine alloc_wp (o := ({ dst := some 13, op := Op.alloc 30, type := 0, pos := "law.go:112", after := #[], guard := none } : Oper)) rfl ?_
              have hB13 := Bx.new { wr with drawn := wr.drawn + 1 } 30 [.slice none 0 0, .int .i64 0]
              have hS := hS.trans (heap1 _ (.cells #[.slice none 0 0, .int .i64 0] 30))
              refine ⟨hS, ?_⟩
              simp only [Act.put, List.setIfInBounds_toArray, List.set_cons_zero, List.set_cons_succ]
              refine h_one 6 ({ dst := some 63, op := Op.call { callee := Callee.value (Operand.func 24), args := #[Operand.tmp 57, Operand.tmp 62], argTypes := #[30, 3] }, type := 30, pos := "law.go:112", after := #[{ on := 0, ground := Ground.data }, { on := 5, ground := Ground.data }], guard := none } : Oper) rfl (by kernel_rfl) rfl ?_
              refine call_wp (o := ({ dst := some 63, op := Op.call { callee := Callee.value (Operand.func 24), args := #[Operand.tmp 57, Operand.tmp 62], argTypes := #[30, 3] }, type := 30, pos := "law.go:112", after := #[{ on := 0, ground := Ground.data }, { on := 5, ground := Ground.data }], guard := none } : Oper)) (args := #[.agg #[.slice (some ⟨bA, off, none⟩) n c, .int .i64 r], .int .i64 (p : Int)]) own24 rfl rfl (HSUB.out _ hS) ?_
              rintro v W2 ⟨y, rfl, hyo, hyl, hbM⟩
              have hB13 := hB13.below hbM hB13.lt
              have hS := hS.trans hbM
              refine ⟨hS, ?_⟩
              simp only [Act.put, List.setIfInBounds_toArray, List.set_cons_zero, List.set_cons_succ]
              obtain ⟨g13, hg13⟩ : ∃ g13, g13 = ({ wr with drawn := wr.drawn + 1 } : World).heap.size := ⟨_, rfl⟩
              have hgz : wr.heap.size ≤ g13 := by rw [hg13]; exact Nat.le_refl _
              rw [← hg13] at hB13 ⊢
              clear hg13
              refine h_one 8 ({ dst := none, op := Op.store 30 (Operand.tmp 13) (Operand.tmp 63), type := 0, pos := "law.go:112", after := #[{ on := 7, ground := Ground.data }, { on := 6, ground := Ground.data }, { on := 6, ground := Ground.chain }, { on := 0, ground := Ground.phase }, { on := 1, ground := Ground.phase }, { on := 2, ground := Ground.phase }, { on := 3, ground := Ground.phase }, { on := 4, ground := Ground.phase }, { on := 5, ground := Ground.phase }, { on := 6, ground := Ground.phase }, { on := 7, ground := Ground.phase }], guard := none } : Oper) rfl (by kernel_rfl) rfl ?_
              refine store_wp (o := ({ dst := none, op := Op.store 30 (Operand.tmp 13) (Operand.tmp 63), type := 0, pos := "law.go:112", after := #[{ on := 7, ground := Ground.data }, { on := 6, ground := Ground.data }, { on := 6, ground := Ground.chain }, { on := 0, ground := Ground.phase }, { on := 1, ground := Ground.phase }, { on := 2, ground := Ground.phase }, { on := 3, ground := Ground.phase }, { on := 4, ground := Ground.phase }, { on := 5, ground := Ground.phase }, { on := 6, ground := Ground.phase }, { on := 7, ground := Ground.phase }], guard := none } : Oper)) (A := some ⟨y.g, 0, none⟩) (n := y.n) (c := y.c) (r := (subR l p : Int)) rfl rfl rfl hB13 ?_
              have hB14 := (hB13.set_ 0 (.slice (some ⟨y.g, 0, none⟩) y.n y.c)).set_ 1 (.int .i64 (subR l p : Int))
              simp only [List.set_cons_zero, List.set_cons_succ] at hB14
              have hy2 := (hyo.keep (set_grown _ g13 0 (.slice (some ⟨y.g, 0, none⟩) y.n y.c)) (fun g e => by cases e; exact ⟨_, hB13⟩)).keep (set_grown _ g13 1 (.int .i64 (subR l p : Int))) (fun g e => by cases e; exact ⟨_, hB13.set_ 0 _⟩)
              have hS := (Below.setCell hS (p := ⟨g13, 0, none⟩) hgz (.slice (some ⟨y.g, 0, none⟩) y.n y.c)).setCell (p := ⟨g13, 1, none⟩) hgz (.int .i64 (subR l p : Int))
              refine ⟨hS, ?_⟩
              simp only [Act.put]
              refine wpAnyH_done (by kernel_rfl) ?_ _
              have HF6 := Lib.hid (And.intro hB14 (And.intro hy2 hS))
              clear hB13 hB14 hy2 hS hyo
              go_upto_region 13 with (fail)
              refine gen_world (fun W => Bx W g13 30 [.slice (some ⟨y.g, 0, none⟩) y.n y.c, .int .i64 (subR l p : Int)] ∧ y.Ok W ∧ Below wr.heap.size wr W) HF6.out ?_
              clear HF6
              rintro W6 ⟨hV6, hy6, hb6⟩
              have hT6 := hT.below hb6 hT.lt
              have hyn : y.n = (subL l p).length := by rw [← hyl]; exact hy6.len.symm
              have hyN : Nds W6 (some ⟨y.g, 0, none⟩) (subL l p) := by rw [← hyl]; exact hy6.nds
              have HSS := Lib.hid (fun (w' : World) (h : Cl W6 w') => (sound_any (some ⟨y.g, 0, none⟩) y.c y.n (subL l p) (subR l p : Int) w' (hyN.below h) hyn (subL_ks (okT_ks HOK.out))).mono (R' := fun e w'' => e = .returned (.bool true) ∧ Cl W6 w'') (fun e w'' ⟨he, hb⟩ => ⟨by rw [he, sndB_true (subL_snd HS.out hpp.1)], h.trans hb⟩))
              have HDM := Lib.hid (fun (w' : World) (h : Cl W6 w') => (depth_any (some ⟨y.g, 0, none⟩) y.c y.n (subL l p) (subR l p : Int) w' (hyN.below h) hyn (subL_ks (okT_ks HOK.out))).mono (R' := fun e w'' => e = .returned (.int .i64 (dpL l l.length p : Int)) ∧ Cl W6 w'') (fun e w'' ⟨he, hb⟩ => ⟨by rw [he, subL_dp HS.out hpp.1], h.trans hb⟩))
              have HDT := Lib.hid (fun (w' : World) (h : Cl W6 w') => (depth_any (some ⟨bA, off, none⟩) c n l r w' ((hTN.below hb6).below h) HL.out (okT_ks HOK.out)).mono (R' := fun e w'' => e = .returned (.int .i64 (dT : Int)) ∧ Cl W6 w'') (fun e w'' ⟨he, hb⟩ => ⟨by rw [he, hdT], h.trans hb⟩))
              refine q_region (by kernel_rfl) ?_
              refine q_load rfl rfl (fun w' h => run_load30 (hV6.below h hV6.lt)) ?_
              simp only [Act.put, List.setIfInBounds_toArray, List.set_cons_zero, List.set_cons_succ]
              refine q_call own15 rfl (args := #[.agg #[.slice (some ⟨y.g, 0, none⟩) y.n y.c, .int .i64 (subR l p : Int)]]) (v := .bool true) rfl (fun w' h => (HSS.out w' h)) ?_
              simp only [Act.put, List.setIfInBounds_toArray, List.set_cons_zero, List.set_cons_succ]
              refine q_not rfl rfl rfl ?_
              simp only [Act.put, List.setIfInBounds_toArray, List.set_cons_zero, List.set_cons_succ]
              refine q_move rfl rfl ?_
              simp only [Act.put, List.setIfInBounds_toArray, List.set_cons_zero, List.set_cons_succ]
              refine q_load rfl rfl (fun w' h => run_load30 (hV6.below h hV6.lt)) ?_
              simp only [Act.put, List.setIfInBounds_toArray, List.set_cons_zero, List.set_cons_succ]
              refine q_call own19 rfl (args := #[.agg #[.slice (some ⟨y.g, 0, none⟩) y.n y.c, .int .i64 (subR l p : Int)]]) (v := .int .i64 (dpL l l.length p : Int)) rfl (fun w' h => (HDM.out w' h)) ?_
              simp only [Act.put, List.setIfInBounds_toArray, List.set_cons_zero, List.set_cons_succ]
              refine q_load rfl rfl (fun w' h => run_load30 (hT6.below h hT6.lt)) ?_
              simp only [Act.put, List.setIfInBounds_toArray, List.set_cons_zero, List.set_cons_succ]
              refine q_call own19 rfl (args := #[.agg #[.slice (some ⟨bA, off, none⟩) n c, .int .i64 r]]) (v := .int .i64 (dT : Int)) rfl (fun w' h => (HDT.out w' h)) ?_
              simp only [Act.put, List.setIfInBounds_toArray, List.set_cons_zero, List.set_cons_succ]
              refine q_geqI rfl rfl rfl hdec ?_
              simp only [Act.put, List.setIfInBounds_toArray, List.set_cons_zero, List.set_cons_succ]
              refine q_pickF rfl rfl rfl ?_
              simp only [Act.put, List.setIfInBounds_toArray, List.set_cons_zero, List.set_cons_succ]
              intro w7 hw7
              have hV7 := hV6.below hw7 hV6.lt
              have v0 := hV7.cell 0
              have v1 := hV7.cell 1
              simp only [List.getElem?_cons_zero, List.getElem?_cons_succ] at v0 v1
              have hb7 : Below wr.heap.size wr w7 := bt hb6 hw7
              have hoA := own_belowG (own_belowG hown hb7) (heap1 w7 (.cells #[.slice (some ⟨y.g, 0, none⟩) y.n y.c, .int .i64 (subR l p : Int)] 30))
              have hXA := (hXI.below hb7).below (heap1 w7 (.cells #[.slice (some ⟨y.g, 0, none⟩) y.n y.c, .int .i64 (subR l p : Int)] 30))
              have hyA := (hy6.below hw7).below (heap1 w7 (.cells #[.slice (some ⟨y.g, 0, none⟩) y.n y.c, .int .i64 (subR l p : Int)] 30))
              have HYN := Lib.hid hyn
              have hb8 := bt hbw hb7
              clear HSS HDM HDT hyN hT6 hy6 hV6 hV7 hdec hyn
              go_wp2_with (first
                | (at_builtin; refine wpList_append_own _ rfl _ _ 25 rfl W5.heap.size 30 t0 (.agg #[.slice none 0 0, .int .i64 0]) 2 32 Try.underlying25 ti tz0 tz1 tz2 rfl (by decide) _ _ _ rfl hoA ⟨w7.heap.size, 0, none⟩ 1 1 [.slice (some ⟨y.g, 0, none⟩) y.n y.c, .int .i64 (subR l p : Int)] rfl rfl (blk_cells w7 [.slice (some ⟨y.g, 0, none⟩) y.n y.c, .int .i64 (subR l p : Int)] 30) (fun u hu => by simp at hu; rcases hu with rfl | rfl <;> rfl) ?c3 ?c4 ?c5 ?_))
              case c3 => unfold maxLen; omega
              case c4 => omega
              case c5 => have := hb8.size; first | omega | (rw [e0]; omega)
              intro v' w9 hown9 hgrow9 _
              have hown10 : w9.ownsRow W5.heap.size 30 2 v' (i + 1) (tfl (xs ++ [(⟨some ⟨y.g, 0, none⟩, (subL l p, (subR l p : Int)), y.c⟩ : AT)])) := by
                rw [tfl_app, show tfl [(⟨some ⟨y.g, 0, none⟩, (subL l p, (subR l p : Int)), y.c⟩ : AT)] = [.slice (some ⟨y.g, 0, none⟩) y.n y.c, .int .i64 (subR l p : Int)] by show AT.cv _ ++ [] = _; unfold AT.cv; rw [HYN.out]; rfl]
                exact hown9
              have hXB : XI w9 (xs ++ [(⟨some ⟨y.g, 0, none⟩, (subL l p, (subR l p : Int)), y.c⟩ : AT)]) := by
                have h8 : XI (w7.alloc (.cells #[.slice (some ⟨y.g, 0, none⟩) y.n y.c, .int .i64 (subR l p : Int)] 30)) (xs ++ [(⟨some ⟨y.g, 0, none⟩, (subL l p, (subR l p : Int)), y.c⟩ : AT)]) := fun z hz => by
                  rcases List.mem_append.1 hz with hz | hz
                  · exact hXA z hz
                  · obtain rfl : z = _ := List.mem_singleton.1 hz
                    exact ⟨y, hyA, rfl, hyl.symm, rfl⟩
                exact h8.keep hgrow9 (own_rowT hoA)
              have hb10 : Below W5.heap.size W5 w9 := (hb8.alloc hb8.size _).grown hgrow9 (by have := hb8.size; rw [e0]; omega) (fun b hb => (hoA.lt b hb).1)
              have HF := Lib.hid (And.intro hown10 (And.intro hXB hb10))
              clear hown9 hgrow9 hown10 hXB hb10 hoA hXA hyA
              go_wp2
              go_roundw
              case rel =>
                obtain ⟨f1, f2, f3⟩ := HF.out
                exact ⟨i + 1, _, by omega, by go_num, f1, by rw [List.map_append, hxs, HTI.out]; rfl, f2, f3⟩
              case measure => simp [intOf]; omega
          · obtain rfl : i = rk.length := by omega
            have hlz : ¬ (rk.length : Int) < (rk.length : Int) := by omega
            rw [List.take_length] at hxs
            have hxl : rk.length = xs.length := by have := congrArg List.length hxs; unfold subTs at this; rw [List.length_map, List.length_map] at this; exact this.symm
            obtain ⟨AL', cL', eL, hTL⟩ := trs_row hxl hown (fun z hz => by
              obtain ⟨y, hy, e1, e2, e3⟩ := hXI z hz
              exact ⟨by rw [e1, e2]; exact hy.nds, by rw [e2, hy.len, e3]; exact hy.2.2.2⟩)
            obtain ⟨rfl, rfl⟩ : AL = AL' ∧ cL = cL' := by cases eL; exact ⟨rfl, rfl⟩
            rw [hxs] at hTL
            obtain ⟨s1, s2⟩ := over_subs HS.out ⟨xk, xn, xp, xt, rk⟩ HGE.out
            dsimp only at s1 s2
            have hn9 : l.length - 1 = n' := by rw [← HL.out, HN'.out]
            have hle : ∀ j, (ovA ((subTs l rk).take j)).length ≤ 10000000 := fun j => by have := ovA_take (subTs l rk) j; omega
            have hts : ∀ t ∈ subTs l rk, t.1.length ≤ 4000 ∧ ∀ x ∈ t.1, x.ks.length ≤ 4000 := fun t ht => by
              unfold subTs at ht
              obtain ⟨k, hk, rfl⟩ := List.mem_map.1 ht
              have hk' : k ∈ kidsAt l n' := by rw [HKA.out]; exact hk
              obtain ⟨b, hb⟩ := HS.out
              obtain ⟨p, rfl, hpn, _⟩ := hb.2.2.2.1.kid hpl2 hk'
              refine ⟨?_, subL_ks (okT_ks HOK.out)⟩
              show (subL l (p : Int).toNat).length ≤ 4000
              rw [Int.toNat_natCast, subL_len (by omega)]
              omega
            have HOV := Lib.hid (fun (w' : World) (h : Cl wr w') => (over_any xk xn xp xt RK rk.length rc AL rk.length cL (subTs l rk) w' (hTL.below h) (by unfold subTs; rw [List.length_map]) (by omega) hts (by have := hle rk.length; omega) hle).mono (R' := fun e w'' => ∃ v, e = .returned v ∧ ∃ Ao co, v = .agg #[.slice Ao n co, .int .i64 r] ∧ Nds w'' Ao l ∧ Below w'.heap.size w' w'') (fun e w'' ⟨Ao, co, he, h1, _, h3⟩ => ⟨_, he, Ao, co, by rw [s1, ← HL.out, s2, hn9, HRR.out], by rw [s1] at h1; exact h1, h3⟩))
            have HLK := Lib.hid (fun (Ao : Option Addr) (co : Nat) (w' : World) (h : Cl wr w') (h1 : Nds w' Ao l) => (like_true Ao (some ⟨bA, off, none⟩) co c n l r w' h1 (hTN.below h) HL.out (by omega) (fun x hx => by have := okT_ks HOK.out x hx; omega)).mono (R' := fun e w'' => ∃ v, e = .returned v ∧ v = .bool true ∧ Below w'.heap.size w' w'') (fun e w'' ⟨he, hb⟩ => ⟨_, he, rfl, hb⟩))
            have HZB := Lib.hid hZB
            clear s1 s2 hle hts hTL eL hxl hown hXI hxs hZB
            go_upto_region 16 with (fail)
            refine wp_region_held (S := Cl wr) (by kernel_rfl) ?_
            have hS : Cl wr { wr with drawn := wr.drawn + 1 } := ⟨rfl, rfl, rfl, Nat.le_refl _, fun _ _ => rfl⟩
            refine h_pure 0 ({ dst := some 78, op := Op.load 24 (Operand.tmp 10), type := 24, pos := "law.go:118", after := #[], guard := none } : Oper) (.agg #[.int .i64 xk, .int .i64 xn, .int .i64 xp, .string xt, .slice RK rk.length rc]) (by kernel_rfl) rfl (by kernel_rfl) (by kernel_rfl) (fun _ _ _ h => h) rfl (y_load rfl rfl (fun w' h => run_load24 (hX.below h hX.lt))) hS ?_
            simp only [Act.put, List.setIfInBounds_toArray, List.set_cons_zero, List.set_cons_succ]
            refine h_pure 1 ({ dst := some 79, op := Op.move (Operand.tmp 11), type := 25, pos := "law.go:118", after := #[], guard := none } : Oper) (.slice AL rk.length cL) (by kernel_rfl) rfl (by kernel_rfl) (by kernel_rfl) (fun _ _ _ h => h) rfl (y_move rfl rfl) hS ?_
            simp only [Act.put, List.setIfInBounds_toArray, List.set_cons_zero, List.set_cons_succ]
            refine h_pure 3 ({ dst := some 81, op := Op.load 30 (Operand.tmp 3), type := 30, pos := "law.go:118", after := #[], guard := none } : Oper) (.agg #[.slice (some ⟨bA, off, none⟩) n c, .int .i64 r]) (by kernel_rfl) rfl (by kernel_rfl) (by kernel_rfl) (fun _ _ _ h => h) rfl (y_load rfl rfl (fun w' h => run_load30 (hT.below h hT.lt))) hS ?_
            simp only [Act.put, List.setIfInBounds_toArray, List.set_cons_zero, List.set_cons_succ]
            refine h_call 2 ({ dst := some 80, op := Op.call { callee := Callee.value (Operand.func 10), args := #[Operand.tmp 78, Operand.tmp 79], argTypes := #[24, 25] }, type := 30, pos := "law.go:118", after := #[{ on := 0, ground := Ground.data }, { on := 1, ground := Ground.data }], guard := none } : Oper) (args := #[.agg #[.int .i64 xk, .int .i64 xn, .int .i64 xp, .string xt, .slice RK rk.length rc], .slice AL rk.length cL]) own10 rfl rfl (by kernel_rfl) rfl rfl (HOV.out _ hS) ?_
            rintro v W2 ⟨Ao, co, rfl, hNo, hbM⟩
            have hS := hS.trans hbM
            refine ⟨hS, ?_⟩
            simp only [Act.put, List.setIfInBounds_toArray, List.set_cons_zero, List.set_cons_succ]
            refine h_call 4 ({ dst := some 82, op := Op.call { callee := Callee.value (Operand.func 12), args := #[Operand.tmp 80, Operand.tmp 81], argTypes := #[30, 30] }, type := 4, pos := "law.go:118", after := #[{ on := 2, ground := Ground.data }, { on := 3, ground := Ground.data }, { on := 2, ground := Ground.chain }], guard := none } : Oper) (args := #[.agg #[.slice Ao n co, .int .i64 r], .agg #[.slice (some ⟨bA, off, none⟩) n c, .int .i64 r]]) own12 rfl rfl (by kernel_rfl) rfl rfl (HLK.out _ _ _ hS hNo) ?_
            rintro v W3 ⟨rfl, hbN⟩
            have hS := hS.trans hbN
            refine ⟨hS, ?_⟩
            simp only [Act.put, List.setIfInBounds_toArray, List.set_cons_zero, List.set_cons_succ]
            refine h_pure 5 ({ dst := some 83, op := Op.unOp UnOp.not 4 (Operand.tmp 82), type := 4, pos := "law.go:118", after := #[{ on := 4, ground := Ground.data }], guard := none } : Oper) (.bool false) (by kernel_rfl) rfl (by kernel_rfl) (by kernel_rfl) (fun _ _ _ h => h) rfl (y_not rfl rfl) hS ?_
            simp only [Act.put, List.setIfInBounds_toArray, List.set_cons_zero, List.set_cons_succ]
            refine wpAnyH_done (by kernel_rfl) ?_ _
            go_upto_region 18 with (fail)
            refine gen_world (fun W => LB w [.slice (some ⟨bA, off, none⟩) n c, .int .i64 r] [.int .i64 kd, .int .i64 nn, .int .i64 pl, .string tx, .slice K kl ck] (some ⟨bA, off, none⟩) l B ts W) (HZB.out.below hS) ?_
            clear HZB hS hT hTN hX hIK x4 hbw hLB hX5 hI5 HA
            rintro wz hz
            have HZ := Lib.hid hz
            clear hz
            go_wp2
            go_loopw [14, 15, 16, 17] (fun v dv mv iv wr => ∃ (i D M : Nat) (gs : List AT), i ≤ m ∧ iv = .int .i64 (i : Int) ∧ dv = .int .i64 (D : Int) ∧ mv = .int .i64 (M : Int) ∧ D = deepT (gs.map AT.t) ∧ M = 1 + (ovA (gs.map AT.t)).length ∧ D ≤ 4000 ∧ wr.ownsRow wz.heap.size 30 2 v gs.length (tfl gs) ∧ GS wz i gs ∧ Below wz.heap.size wz wr) (fun _ _ _ i _ => m - (intOf i).toNat)
            case atStart => exact ⟨0, 0, 1, [], Nat.zero_le _, rfl, rfl, rfl, rfl, rfl, Nat.zero_le _, World.ownsRow_nil _ _ _ _, ⟨Nat.le_refl _, fun x hx => (by cases hx)⟩, Below.refl _ _⟩
            case round =>
            obtain ⟨i, D, M, gs, hi, rfl, rfl, rfl, hD, hM, hD4, hown, hG, hbw⟩ := hrel
            have HD := Lib.hid hD
            have HMM := Lib.hid hM
            have HG := Lib.hid hG
            have hgl : gs.length ≤ 30 := by have := hG.1; omega
            have hM6 : M ≤ 6001 := by
              have h1 := ovA_le (m := 200) (ts := gs.map AT.t) (fun t ht => by obtain ⟨x, hx, rfl⟩ := List.mem_map.1 ht; exact (hG.2 x hx).2.2.2.1)
              rw [List.length_map] at h1
              omega
            clear hD hM hG
            obtain ⟨AG, cG, rfl⟩ := own_sliceG hown
            by_cases hlt : i < m
            · have hlz : (i : Int) < (m : Int) := by omega
              have hit : i < ts.length := by rw [← HM.out]; exact hlt
              obtain ⟨bB, oB, rfl, hbB, hcB⟩ := HZ.out.k (by omega)
              obtain ⟨KT, cT, k0, k1, hNT, hcT⟩ := hcB i hit
              have hokt := HOK2.out _ (List.getElem_mem hit)
              clear hcB
              generalize ts[i] = t at *
              obtain ⟨tn, tr⟩ := t
              dsimp only at k0 k1 hNT hcT
              have q0 := (hbw.cell (p := ⟨bB, oB + i * 2, none⟩) hbB).trans k0
              have q1 := (hbw.cell (p := ⟨bB, oB + i * 2 + 1, none⟩) hbB).trans k1
              have HSN := Lib.hid (sound_any KT cT tn.length tn tr wr (hNT.below hbw) rfl (okT_ks hokt))
              by_cases hsn : Snd tn tr
              · rw [sndB_true hsn] at HSN
                go_upto_region 25 with (first | (go_at_call 15; refine HSN.out.mono ?_; rintro e w5 ⟨rfl, hb5⟩))
                clear HSN q0 q1
                have hb6 := bt hbw hb5
                have q0 := (hb6.cell (p := ⟨bB, oB + i * 2, none⟩) hbB).trans k0
                have q1 := (hb6.cell (p := ⟨bB, oB + i * 2 + 1, none⟩) hbB).trans k1
                have hoA := own_belowG (own_belowG hown hb5) (heap1 w5 (.cells #[.slice KT tn.length cT, .int .i64 tr] 30))
                go_upto_region 26 with (first
                  | (at_builtin; refine wpList_append_own _ rfl _ _ 25 rfl wz.heap.size 30 t0 (.agg #[.slice none 0 0, .int .i64 0]) 2 32 Try.underlying25 ti tz0 tz1 tz2 rfl (by decide) _ _ _ rfl hoA ⟨w5.heap.size, 0, none⟩ 1 1 [.slice KT tn.length cT, .int .i64 tr] rfl rfl (blk_cells w5 [.slice KT tn.length cT, .int .i64 tr] 30) (one2 ⟨KT, (tn, tr), cT⟩) ?c3 ?c4 ?c5 ?_))
                case c3 => unfold maxLen; omega
                case c4 => omega
                case c5 => have := hb6.size; first | omega | (rw [e0]; omega)
                intro v' w6 hown6 hgrow6 _
                have hb7 : Below wz.heap.size wz w6 := (hb6.alloc hb6.size _).grown hgrow6 (by have := hb6.size; rw [e0]; omega) (fun b hb => (hoA.lt b hb).1)
                have hown7 : w6.ownsRow wz.heap.size 30 2 v' (gs ++ [(⟨KT, (tn, tr), cT⟩ : AT)]).length (tfl (gs ++ [(⟨KT, (tn, tr), cT⟩ : AT)])) := by
                  rw [List.length_append, tfl_app]; exact hown6
                have HO7 := Lib.hid hown7
                clear hown6 hown7 hgrow6 hoA hown hb6 hb5 q0 q1
                have q0 := (hb7.cell (p := ⟨bB, oB + i * 2, none⟩) hbB).trans k0
                have q1 := (hb7.cell (p := ⟨bB, oB + i * 2 + 1, none⟩) hbB).trans k1
                have HDP := Lib.hid (depth_any KT cT tn.length tn tr w6 (hNT.below hb7) rfl (okT_ks hokt))
                have hdl := dpt_le tn tr
                obtain ⟨dd, hdd⟩ : ∃ dd, dd = dpt tn tr := ⟨_, rfl⟩
                rw [← hdd] at HDP hdl
                have HDD := Lib.hid hdd
                clear hdd
                go_upto_region 27 with (first | (go_at_call 19; refine HDP.out.mono ?_; rintro e w8 ⟨rfl, hb8⟩))
                clear HDP q0 q1
                have hb9 := bt hb7 hb8
                have q0 := (hb9.cell (p := ⟨bB, oB + i * 2, none⟩) hbB).trans k0
                have htl : tn.length ≤ 200 := hokt.1
                go_wp2
                go_roundw
                case rel =>
                  refine ⟨i + 1, max D dd, M + tn.length, gs ++ [(⟨KT, (tn, tr), cT⟩ : AT)], by omega, by go_num, congrArg (Value.int .i64) (max_if D dd), by go_num, ?_, ?_, by omega, own_belowG HO7.out hb8, ⟨?_, ?_⟩, hb9⟩
                  · rw [List.map_append, List.map_singleton, deepT_snoc, ← HD.out, HDD.out]
                  · have h7 := HMM.out
                    rw [List.map_append, List.map_singleton, ovA_snoc, List.length_append, List.length_map]
                    show M + tn.length = 1 + ((ovA (gs.map AT.t)).length + tn.length)
                    omega
                  · rw [List.length_append]; have := HG.out.1; show _ + 1 ≤ _; omega
                  · intro x hx
                    rcases List.mem_append.1 hx with hx | hx
                    · exact HG.out.2 x hx
                    · obtain rfl : x = _ := List.mem_singleton.1 hx
                      exact ⟨hNT, hcT, hsn, hokt⟩
                case measure => simp [intOf]; omega
              · rw [sndB_false hsn] at HSN
                go_wp2_with (first | (go_at_call 15; refine HSN.out.mono ?_))
                rintro e w5 ⟨rfl, hb5⟩
                go_wp2
                go_roundw
                case rel => exact ⟨i + 1, D, M, gs, by omega, by go_num, rfl, rfl, HD.out, HMM.out, hD4, own_belowG hown hb5, ⟨by have := HG.out.1; omega, HG.out.2⟩, bt hbw hb5⟩
                case measure => simp [intOf]; omega
            · obtain rfl : i = m := by omega
              have hlz : ¬ (i : Int) < (i : Int) := by omega
              have hx2 := HZ.out.n.below hbw HZ.out.n.lt
              have b0 := hx2.cell 0
              have b1 := hx2.cell 1
              have b2 := hx2.cell 2
              have b3 := hx2.cell 3
              have b4 := hx2.cell 4
              simp only [List.getElem?_cons_zero, List.getElem?_cons_succ] at b0 b1 b2 b3 b4
              obtain ⟨AG', cG', eG, hTG⟩ := trs_row rfl hown (fun x hx => ⟨(HG.out.2 x hx).1.below hbw, (HG.out.2 x hx).2.1⟩)
              obtain ⟨rfl, rfl⟩ : AG = AG' ∧ cG = cG' := by cases eG; exact ⟨rfl, rfl⟩
              obtain ⟨us, hus⟩ : ∃ us, us = gs.map AT.t := ⟨_, rfl⟩
              rw [← hus] at HD HMM hTG
              have hul : gs.length = us.length := by rw [hus, List.length_map]
              have hall : ∀ t ∈ us, Snd t.1 t.2 ∧ OkT t := fun t ht => by
                rw [hus] at ht
                obtain ⟨x, hx, rfl⟩ := List.mem_map.1 ht
                exact ⟨(HG.out.2 x hx).2.2.1, (HG.out.2 x hx).2.2.2⟩
              have htk : ∀ j, (ovA (us.take j)).length ≤ 10000000 := fun j => by
                have h1 := ovA_le (m := 200) (ts := us.take j) (fun t ht => (hall t (List.mem_of_mem_take ht)).2.1)
                have h2 : (us.take j).length ≤ 30 := by rw [List.length_take]; omega
                omega
              have hua := ovA_le (m := 200) (ts := us) (fun t ht => (hall t ht).2.1)
              have HOV := Lib.hid (over_any kd nn pl tx K kl ck AG gs.length cG us wr hTG hul (by omega) (fun t ht => ⟨by have := (hall t ht).2.1; omega, fun x hx => by have := ((hall t ht).2.2 x hx).1; omega⟩) (by omega) htk)
              have HALL := Lib.hid hall
              have hML : M = (ovL kd nn pl tx us).length := by rw [HMM.out]; unfold ovL; rw [List.length_append]; show _ = _ + 1; omega
              have HML := Lib.hid hML
              have HUA := Lib.hid (show (ovA us).length ≤ 1000000 by omega)
              have HKS := Lib.hid (show ∀ x ∈ ovL kd nn pl tx us, x.ks.length ≤ 4000 from ovL_ks (fun t ht x hx => by have := ((hall t ht).2.2 x hx).1; omega) (by omega))
              obtain ⟨R, hR⟩ : ∃ R : Int, R = ((ovA us).length : Int) := ⟨_, rfl⟩
              rw [← hR] at HOV
              have HR := Lib.hid hR
              clear hR hML hall htk hua hus hTG eG hul
              go_upto_region 29 with (first | (go_at_call 10; refine HOV.out.mono ?_; rintro e w9 ⟨Ao, co, rfl, hNo, hco, hb9⟩; rw [← HML.out]))
              have hU := Bx.new w9 30 [.slice Ao M co, .int .i64 R]
              have hNo2 := hNo.below (heap1 w9 (.cells #[.slice Ao M co, .int .i64 R] 30))
              have hbZ := bt (bt HZ.out.b hbw) (hb9.alloc hb9.size (.cells #[.slice Ao M co, .int .i64 R] 30))
              refine gen_world (fun W => Bx W w9.heap.size 30 [.slice Ao M co, .int .i64 R] ∧ Nds W Ao (ovL kd nn pl tx us) ∧ Below w.heap.size w W) ⟨hU, hNo2, hbZ⟩ ?_
              clear hU hNo2 hbZ hNo b0 b1 b2 b3 b4
              rintro W ⟨hU, hNo, hbZ⟩
              have u0 := hU.cell 0
              have u1 := hU.cell 1
              simp only [List.getElem?_cons_zero, List.getElem?_cons_succ] at u0 u1
              have hmm : ((M : Int) == (M : Int)) = true := by simp
              have HS2 := Lib.hid (sound_any Ao co M (ovL kd nn pl tx us) R W hNo HML.out HKS.out)
              by_cases h4 : M ≤ 4000
              · obtain ⟨s1, s2⟩ := over_sound (kd := kd) (n := nn) (pl := pl) (tx := tx) (ts := us) (fun t ht => (HALL.out t ht).1) HUA.out (by rw [← HML.out]; exact h4)
                rw [← HR.out] at s1 s2
                rw [sndB_true s1] at HS2
                have hd1 : decide ((M : Int) ≤ 4000) = true := decide_eq_true (by omega)
                have hd2 : decide ((4000 : Int) < (M : Int)) = false := decide_eq_false (by omega)
                have hle : (M : Int) ≤ 4000 := by omega
                go_wp2_with (first | (go_at_call 15; refine HS2.out.mono ?_))
                rintro e w10 ⟨rfl, hb10⟩
                have hU2 := hU.below hb10 hU.lt
                have v0 := hU2.cell 0
                have v1 := hU2.cell 1
                simp only [List.getElem?_cons_zero, List.getElem?_cons_succ] at v0 v1
                have HD2 := Lib.hid (depth_any Ao co M (ovL kd nn pl tx us) R w10 (hNo.below hb10) HML.out HKS.out)
                rw [s2, ← HD.out] at HD2
                have hDD : (((D + 1 : Nat) : Int) == (D : Int) + 1) = true := by simp
                go_wp2_with (first | (go_at_call 19; refine HD2.out.mono ?_))
                rintro e w11 ⟨rfl, hb11⟩
                go_wp2
                go_ret
                exact ⟨rfl, bt (bt hbZ hb10) hb11⟩
              · rw [sndB_false (not_sound_long (by rw [← HML.out]; omega))] at HS2
                have hd1 : decide ((M : Int) ≤ 4000) = false := decide_eq_false (by omega)
                have hd2 : decide ((4000 : Int) < (M : Int)) = true := decide_eq_true (by omega)
                have hle : ¬ (M : Int) ≤ 4000 := by omega
                have hgt : (4000 : Int) < (M : Int) := by omega
                go_wp2_with (first | (go_at_call 15; refine HS2.out.mono ?_))
                rintro e w10 ⟨rfl, hb10⟩
                go_wp2
                go_ret
                exact ⟨rfl, bt hbZ hb10⟩
        · rw [sndB_false hS] at HSN
          clear hS
          go_wp2_with (first | (go_at_call 15; refine HSN.out.mono ?_))
          rintro e wz ⟨rfl, hb5⟩
          have HZ := Lib.hid (H3.out.below hb5)
          clear HSN H3 hb5 d0 d1
          go_wp2
          go_loopw [14, 15, 16, 17] (fun v dv mv iv wr => ∃ (i D M : Nat) (gs : List AT), i ≤ m ∧ iv = .int .i64 (i : Int) ∧ dv = .int .i64 (D : Int) ∧ mv = .int .i64 (M : Int) ∧ D = deepT (gs.map AT.t) ∧ M = 1 + (ovA (gs.map AT.t)).length ∧ D ≤ 4000 ∧ wr.ownsRow wz.heap.size 30 2 v gs.length (tfl gs) ∧ GS wz i gs ∧ Below wz.heap.size wz wr) (fun _ _ _ i _ => m - (intOf i).toNat)
          case atStart => exact ⟨0, 0, 1, [], Nat.zero_le _, rfl, rfl, rfl, rfl, rfl, Nat.zero_le _, World.ownsRow_nil _ _ _ _, ⟨Nat.le_refl _, fun x hx => (by cases hx)⟩, Below.refl _ _⟩
          case round =>
          obtain ⟨i, D, M, gs, hi, rfl, rfl, rfl, hD, hM, hD4, hown, hG, hbw⟩ := hrel
          have HD := Lib.hid hD
          have HMM := Lib.hid hM
          have HG := Lib.hid hG
          have hgl : gs.length ≤ 30 := by have := hG.1; omega
          have hM6 : M ≤ 6001 := by
            have h1 := ovA_le (m := 200) (ts := gs.map AT.t) (fun t ht => by obtain ⟨x, hx, rfl⟩ := List.mem_map.1 ht; exact (hG.2 x hx).2.2.2.1)
            rw [List.length_map] at h1
            omega
          clear hD hM hG
          obtain ⟨AG, cG, rfl⟩ := own_sliceG hown
          by_cases hlt : i < m
          · have hlz : (i : Int) < (m : Int) := by omega
            have hit : i < ts.length := by rw [← HM.out]; exact hlt
            obtain ⟨bB, oB, rfl, hbB, hcB⟩ := HZ.out.k (by omega)
            obtain ⟨KT, cT, k0, k1, hNT, hcT⟩ := hcB i hit
            have hokt := HOK2.out _ (List.getElem_mem hit)
            clear hcB
            generalize ts[i] = t at *
            obtain ⟨tn, tr⟩ := t
            dsimp only at k0 k1 hNT hcT
            have q0 := (hbw.cell (p := ⟨bB, oB + i * 2, none⟩) hbB).trans k0
            have q1 := (hbw.cell (p := ⟨bB, oB + i * 2 + 1, none⟩) hbB).trans k1
            have HSN := Lib.hid (sound_any KT cT tn.length tn tr wr (hNT.below hbw) rfl (okT_ks hokt))
            by_cases hsn : Snd tn tr
            · rw [sndB_true hsn] at HSN
              go_upto_region 25 with (first | (go_at_call 15; refine HSN.out.mono ?_; rintro e w5 ⟨rfl, hb5⟩))
              clear HSN q0 q1
              have hb6 := bt hbw hb5
              have q0 := (hb6.cell (p := ⟨bB, oB + i * 2, none⟩) hbB).trans k0
              have q1 := (hb6.cell (p := ⟨bB, oB + i * 2 + 1, none⟩) hbB).trans k1
              have hoA := own_belowG (own_belowG hown hb5) (heap1 w5 (.cells #[.slice KT tn.length cT, .int .i64 tr] 30))
              go_upto_region 26 with (first
                | (at_builtin; refine wpList_append_own _ rfl _ _ 25 rfl wz.heap.size 30 t0 (.agg #[.slice none 0 0, .int .i64 0]) 2 32 Try.underlying25 ti tz0 tz1 tz2 rfl (by decide) _ _ _ rfl hoA ⟨w5.heap.size, 0, none⟩ 1 1 [.slice KT tn.length cT, .int .i64 tr] rfl rfl (blk_cells w5 [.slice KT tn.length cT, .int .i64 tr] 30) (one2 ⟨KT, (tn, tr), cT⟩) ?c3 ?c4 ?c5 ?_))
              case c3 => unfold maxLen; omega
              case c4 => omega
              case c5 => have := hb6.size; first | omega | (rw [e0]; omega)
              intro v' w6 hown6 hgrow6 _
              have hb7 : Below wz.heap.size wz w6 := (hb6.alloc hb6.size _).grown hgrow6 (by have := hb6.size; rw [e0]; omega) (fun b hb => (hoA.lt b hb).1)
              have hown7 : w6.ownsRow wz.heap.size 30 2 v' (gs ++ [(⟨KT, (tn, tr), cT⟩ : AT)]).length (tfl (gs ++ [(⟨KT, (tn, tr), cT⟩ : AT)])) := by
                rw [List.length_append, tfl_app]; exact hown6
              have HO7 := Lib.hid hown7
              clear hown6 hown7 hgrow6 hoA hown hb6 hb5 q0 q1
              have q0 := (hb7.cell (p := ⟨bB, oB + i * 2, none⟩) hbB).trans k0
              have q1 := (hb7.cell (p := ⟨bB, oB + i * 2 + 1, none⟩) hbB).trans k1
              have HDP := Lib.hid (depth_any KT cT tn.length tn tr w6 (hNT.below hb7) rfl (okT_ks hokt))
              have hdl := dpt_le tn tr
              obtain ⟨dd, hdd⟩ : ∃ dd, dd = dpt tn tr := ⟨_, rfl⟩
              rw [← hdd] at HDP hdl
              have HDD := Lib.hid hdd
              clear hdd
              go_upto_region 27 with (first | (go_at_call 19; refine HDP.out.mono ?_; rintro e w8 ⟨rfl, hb8⟩))
              clear HDP q0 q1
              have hb9 := bt hb7 hb8
              have q0 := (hb9.cell (p := ⟨bB, oB + i * 2, none⟩) hbB).trans k0
              have htl : tn.length ≤ 200 := hokt.1
              go_wp2
              go_roundw
              case rel =>
                refine ⟨i + 1, max D dd, M + tn.length, gs ++ [(⟨KT, (tn, tr), cT⟩ : AT)], by omega, by go_num, congrArg (Value.int .i64) (max_if D dd), by go_num, ?_, ?_, by omega, own_belowG HO7.out hb8, ⟨?_, ?_⟩, hb9⟩
                · rw [List.map_append, List.map_singleton, deepT_snoc, ← HD.out, HDD.out]
                · have h7 := HMM.out
                  rw [List.map_append, List.map_singleton, ovA_snoc, List.length_append, List.length_map]
                  show M + tn.length = 1 + ((ovA (gs.map AT.t)).length + tn.length)
                  omega
                · rw [List.length_append]; have := HG.out.1; show _ + 1 ≤ _; omega
                · intro x hx
                  rcases List.mem_append.1 hx with hx | hx
                  · exact HG.out.2 x hx
                  · obtain rfl : x = _ := List.mem_singleton.1 hx
                    exact ⟨hNT, hcT, hsn, hokt⟩
              case measure => simp [intOf]; omega
            · rw [sndB_false hsn] at HSN
              go_wp2_with (first | (go_at_call 15; refine HSN.out.mono ?_))
              rintro e w5 ⟨rfl, hb5⟩
              go_wp2
              go_roundw
              case rel => exact ⟨i + 1, D, M, gs, by omega, by go_num, rfl, rfl, HD.out, HMM.out, hD4, own_belowG hown hb5, ⟨by have := HG.out.1; omega, HG.out.2⟩, bt hbw hb5⟩
              case measure => simp [intOf]; omega
          · obtain rfl : i = m := by omega
            have hlz : ¬ (i : Int) < (i : Int) := by omega
            have hx2 := HZ.out.n.below hbw HZ.out.n.lt
            have b0 := hx2.cell 0
            have b1 := hx2.cell 1
            have b2 := hx2.cell 2
            have b3 := hx2.cell 3
            have b4 := hx2.cell 4
            simp only [List.getElem?_cons_zero, List.getElem?_cons_succ] at b0 b1 b2 b3 b4
            obtain ⟨AG', cG', eG, hTG⟩ := trs_row rfl hown (fun x hx => ⟨(HG.out.2 x hx).1.below hbw, (HG.out.2 x hx).2.1⟩)
            obtain ⟨rfl, rfl⟩ : AG = AG' ∧ cG = cG' := by cases eG; exact ⟨rfl, rfl⟩
            obtain ⟨us, hus⟩ : ∃ us, us = gs.map AT.t := ⟨_, rfl⟩
            rw [← hus] at HD HMM hTG
            have hul : gs.length = us.length := by rw [hus, List.length_map]
            have hall : ∀ t ∈ us, Snd t.1 t.2 ∧ OkT t := fun t ht => by
              rw [hus] at ht
              obtain ⟨x, hx, rfl⟩ := List.mem_map.1 ht
              exact ⟨(HG.out.2 x hx).2.2.1, (HG.out.2 x hx).2.2.2⟩
            have htk : ∀ j, (ovA (us.take j)).length ≤ 10000000 := fun j => by
              have h1 := ovA_le (m := 200) (ts := us.take j) (fun t ht => (hall t (List.mem_of_mem_take ht)).2.1)
              have h2 : (us.take j).length ≤ 30 := by rw [List.length_take]; omega
              omega
            have hua := ovA_le (m := 200) (ts := us) (fun t ht => (hall t ht).2.1)
            have HOV := Lib.hid (over_any kd nn pl tx K kl ck AG gs.length cG us wr hTG hul (by omega) (fun t ht => ⟨by have := (hall t ht).2.1; omega, fun x hx => by have := ((hall t ht).2.2 x hx).1; omega⟩) (by omega) htk)
            have HALL := Lib.hid hall
            have hML : M = (ovL kd nn pl tx us).length := by rw [HMM.out]; unfold ovL; rw [List.length_append]; show _ = _ + 1; omega
            have HML := Lib.hid hML
            have HUA := Lib.hid (show (ovA us).length ≤ 1000000 by omega)
            have HKS := Lib.hid (show ∀ x ∈ ovL kd nn pl tx us, x.ks.length ≤ 4000 from ovL_ks (fun t ht x hx => by have := ((hall t ht).2.2 x hx).1; omega) (by omega))
            obtain ⟨R, hR⟩ : ∃ R : Int, R = ((ovA us).length : Int) := ⟨_, rfl⟩
            rw [← hR] at HOV
            have HR := Lib.hid hR
            clear hR hML hall htk hua hus hTG eG hul
            go_upto_region 29 with (first | (go_at_call 10; refine HOV.out.mono ?_; rintro e w9 ⟨Ao, co, rfl, hNo, hco, hb9⟩; rw [← HML.out]))
            have hU := Bx.new w9 30 [.slice Ao M co, .int .i64 R]
            have hNo2 := hNo.below (heap1 w9 (.cells #[.slice Ao M co, .int .i64 R] 30))
            have hbZ := bt (bt HZ.out.b hbw) (hb9.alloc hb9.size (.cells #[.slice Ao M co, .int .i64 R] 30))
            refine gen_world (fun W => Bx W w9.heap.size 30 [.slice Ao M co, .int .i64 R] ∧ Nds W Ao (ovL kd nn pl tx us) ∧ Below w.heap.size w W) ⟨hU, hNo2, hbZ⟩ ?_
            clear hU hNo2 hbZ hNo b0 b1 b2 b3 b4
            rintro W ⟨hU, hNo, hbZ⟩
            have u0 := hU.cell 0
            have u1 := hU.cell 1
            simp only [List.getElem?_cons_zero, List.getElem?_cons_succ] at u0 u1
            have hmm : ((M : Int) == (M : Int)) = true := by simp
            have HS2 := Lib.hid (sound_any Ao co M (ovL kd nn pl tx us) R W hNo HML.out HKS.out)
            by_cases h4 : M ≤ 4000
            · obtain ⟨s1, s2⟩ := over_sound (kd := kd) (n := nn) (pl := pl) (tx := tx) (ts := us) (fun t ht => (HALL.out t ht).1) HUA.out (by rw [← HML.out]; exact h4)
              rw [← HR.out] at s1 s2
              rw [sndB_true s1] at HS2
              have hd1 : decide ((M : Int) ≤ 4000) = true := decide_eq_true (by omega)
              have hd2 : decide ((4000 : Int) < (M : Int)) = false := decide_eq_false (by omega)
              have hle : (M : Int) ≤ 4000 := by omega
              go_wp2_with (first | (go_at_call 15; refine HS2.out.mono ?_))
              rintro e w10 ⟨rfl, hb10⟩
              have hU2 := hU.below hb10 hU.lt
              have v0 := hU2.cell 0
              have v1 := hU2.cell 1
              simp only [List.getElem?_cons_zero, List.getElem?_cons_succ] at v0 v1
              have HD2 := Lib.hid (depth_any Ao co M (ovL kd nn pl tx us) R w10 (hNo.below hb10) HML.out HKS.out)
              rw [s2, ← HD.out] at HD2
              have hDD : (((D + 1 : Nat) : Int) == (D : Int) + 1) = true := by simp
              go_wp2_with (first | (go_at_call 19; refine HD2.out.mono ?_))
              rintro e w11 ⟨rfl, hb11⟩
              go_wp2
              go_ret
              exact ⟨rfl, bt (bt hbZ hb10) hb11⟩
            · rw [sndB_false (not_sound_long (by rw [← HML.out]; omega))] at HS2
              have hd1 : decide ((M : Int) ≤ 4000) = false := decide_eq_false (by omega)
              have hd2 : decide ((4000 : Int) < (M : Int)) = true := decide_eq_true (by omega)
              have hle : ¬ (M : Int) ≤ 4000 := by omega
              have hgt : (4000 : Int) < (M : Int) := by omega
              go_wp2_with (first | (go_at_call 15; refine HS2.out.mono ?_))
              rintro e w10 ⟨rfl, hb10⟩
              go_wp2
              go_ret
              exact ⟨rfl, bt hbZ hb10⟩
end Go.Proofs.Ytcnmkmdedeiffaa
