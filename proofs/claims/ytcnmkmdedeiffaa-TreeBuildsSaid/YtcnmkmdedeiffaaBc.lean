/- PROVED here: what Sub answers owns its memory; rows of trees; steps of a region that makes memory. No condition but those in each theorem's own head. -/
import Derived.Test.YtcnmkmdedeiffaaBb
import Derived.Test.YtcnmkmdedeiffaaU
namespace Go.Proofs.Ytcnmkmdedeiffaa
open Go Go.RowKit

/-- nodes in a block of their own -/
structure OT where
  g : Nat
  n : Nat
  c : Nat
  ls : List AN
def OT.v (x : OT) : Value := .slice (some ⟨x.g, 0, none⟩) x.n x.c
def OT.l (x : OT) : List Nd := x.ls.map AN.nd
def OT.Ok (w : World) (x : OT) : Prop := w.ownsRow 0 24 5 x.v x.n (fl x.ls) ∧ Al 0 w x.ls ∧ x.ls.length = x.n ∧ x.n ≤ x.c
theorem OT.Ok.nds {w : World} {x : OT} (h : x.Ok w) : Nds w (some ⟨x.g, 0, none⟩) x.l := by
  have h' := h.1
  rw [← h.2.2.1] at h'
  obtain ⟨A, c, e, hN, _⟩ := nds_own h' h.2.1
  unfold OT.v at e
  injection e with e1 e2 e3
  rw [← e1] at hN
  exact hN
theorem OT.Ok.len {w : World} {x : OT} (h : x.Ok w) : x.l.length = x.n := by unfold OT.l; rw [List.length_map]; exact h.2.2.1
theorem OT.Ok.below {w w' : World} {x : OT} (h : x.Ok w) (hb : Below w.heap.size w w') : x.Ok w' := ⟨own_below h.1 hb, h.2.1.below hb, h.2.2⟩
theorem own_keepT {base n size : Nat} {e : TypeId} {v : Value} {xs : List Value} {w w' : World} {row : Option Nat} (h : w.ownsRow base e size v n xs) (hg : w.grownBy w' row) (hne : ∀ g, v.ownBlock = some g → row = some g → False) : w'.ownsRow base e size v n xs := by
  refine ⟨h.1, h.2.imp id ?_⟩
  rintro ⟨g, cap, cur, h1, h2, h3, h4⟩
  exact ⟨g, cap, cur, h1, h2, (hg.block g (Array.getElem?_eq_some_iff.1 h3).1 fun e => hne g (by rw [h1]; rfl) e.symm).trans h3, h4⟩
/-- a block of another kind has turned -/
theorem OT.Ok.keep {w w' : World} {x : OT} {row : Option Nat} (h : x.Ok w) (hg : w.grownBy w' row) (hr : ∀ g, row = some g → ∃ cs, w.heap[g]? = some (.cells cs 30 (0, 0))) : x.Ok w' := by
  refine ⟨own_keepT h.1 hg fun g hgo hgr => ?_, h.2.1.keep fun b _ n m hI => hg.block b hI.lt fun e => ?_, h.2.2⟩
  · obtain ⟨cs, hc⟩ := hr g hgr
    obtain ⟨cs', hc'⟩ := own_row24 h.1 g hgo
    rw [hc'] at hc; simp at hc
  · obtain ⟨cs, hc⟩ := hr b e.symm
    rw [show w.heap[b]? = _ from hI] at hc; simp at hc
def OPost (l : List Nd) (r : Int) (w : World) (e : Ending) (w' : World) : Prop := ∃ x : OT, e = .returned (.agg #[x.v, .int .i64 r]) ∧ x.Ok w' ∧ x.l = l ∧ Below w.heap.size w w'
set_option maxRecDepth 100000 in
set_option maxHeartbeats 1500000 in
theorem sub_own (A : Option Addr) (c n : Nat) (l : List Nd) (r : Int) (p : Nat) (w : World) (hN : Nds w A l) (hn : n = l.length) (hc : n ≤ c) (hk : ∀ x ∈ l, x.ks.length ≤ 4000) (h : Snd l r) (hp : p < n) : Calls Try.prog 24 #[.agg #[.slice A n c, .int .i64 r], .int .i64 (p : Int)] w (OPost (subL l p) (subR l p : Int) w) := by
  have e0 : ∀ (w' : World) (o : Obj), (w'.alloc o).heap.size = w'.heap.size + 1 := fun w' o => World.size_alloc w' o
  obtain ⟨W, hW⟩ : ∃ W, (w.alloc (.cells #[.slice A n c, .int .i64 r] 30)).alloc (.cells #[.slice none 0 0, .int .i64 0] 30) = W := ⟨_, rfl⟩
  have hb : Below w.heap.size w W := by rw [← hW]; exact (heap1 _ _).alloc (by rw [e0]; omega) _
  have hsz : W.heap.size = w.heap.size + 1 + 1 := by rw [← hW, e0, e0]
  have hB1 : Bx W w.heap.size 30 [.slice A n c, .int .i64 r] := by rw [← hW]; exact (Bx.new w 30 _).alloc _
  have hB2 : Bx W (w.heap.size + 1) 30 [.slice none 0 0, .int .i64 0] := by
    rw [← hW]
    have := Bx.new (w.alloc (.cells #[.slice A n c, .int .i64 r] 30)) 30 [.slice none 0 0, .int .i64 0]
    rw [e0] at this; exact this
  have HS := Lib.hid (starts_any A c n l r W (hN.below hb) hn hk)
  have HN := Lib.hid hN
  have HL := Lib.hid hn
  have HK := Lib.hid hk
  have HSd := Lib.hid h
  clear hN hn hk h
  have hct0 := hB1.cell 0
  have hct1 := hB1.cell 1
  simp only [List.getElem?_cons_zero, List.getElem?_cons_succ] at hct0 hct1
  go_enter Try.func24, Try.ntmps24
  go_wp2_with (go_at_call 27; refine HS.out.mono ?_)
  clear HS
  rintro e w1 ⟨hb1, ⟨b, g, hS, rfl, hI, hg⟩ | ⟨hno, rfl⟩⟩
  · have hbp : b p = stF l l.length p := (stF_is hS.2.2.2.1 p (by rw [← HL.out]; exact hp)).symm
    have hble := hS.2.2.2.1.le p (by rw [← HL.out]; exact hp)
    have hn4 := hS.2.1
    rw [← HL.out] at hI hn4 ⊢
    have hcg := hI.cell hp
    obtain ⟨bA, off, rfl, hbA, _⟩ := HN.out (by have := HL.out; omega)
    have HN1 := Lib.hid ((((HN.out.below hb).below hb1)).sub (b p) (p + 1) (by rw [← HL.out]; omega))
    have HSU := Lib.hid hS.2.2.2.1
    have hD1 := hB1.below hb1 (by omega)
    have hD2 := hB2.below hb1 (by omega)
    have hct0 := hD1.cell 0
    have hct1 := hD1.cell 1
    simp only [List.getElem?_cons_zero, List.getElem?_cons_succ] at hct0 hct1
    clear hS hI hB1 hB2 hW hg HSd
    obtain ⟨s, hs⟩ : ∃ s, s = b p := ⟨_, rfl⟩
    rw [← hs] at hcg hbp hble HN1
    clear hs
    have hlen : (((l.take (p + 1)).drop s)).length = p + 1 - s := by rw [List.length_drop, List.length_take]; have := HL.out; omega
    have HM := Lib.hid (fun d => moved_any (some ⟨bA, off + s * 5, none⟩) (c - s) (p + 1 - s) ((l.take (p + 1)).drop s) d w1 HN1.out hlen.symm (by omega) (fun x hx => HK.out x (List.mem_of_mem_take (List.mem_of_mem_drop hx))))
    have hsl := slice28 bA off n c s p ((p : Int) + 1) rfl hble (by omega)
    have hpz : (p : Int) < (n : Int) := by omega
    have HBP := Lib.hid hbp
    clear hbp hlen
    go_wp2_with (go_at_call 26; refine (HM.out _).mono ?_)
    rintro e w2 ⟨ls, rfl, hown, hmap, hAl, hb2⟩
    have hE2 := hD2.below hb2 (by have := hb1.size; omega)
    have hcr0 := hE2.cell 0
    have hcr1 := hE2.cell 1
    have hfr0 := hE2.frozen 0
    have hfr1 := hE2.frozen 1
    simp only [List.getElem?_cons_zero, List.getElem?_cons_succ] at hcr0 hcr1
    have hb3 := bt (bt hb hb1) hb2
    go_wp2
    have hE3 := (hE2.set_ 0 (.slice (some ⟨w1.heap.size, 0, none⟩) (p + 1 - s) (p + 1 - s))).set_ 1 (.int .i64 ((p : Int) - s))
    have hz1 : w.heap.size + 1 < w1.heap.size := by have := hb1.size; omega
    have ho3 := own_set (i := 1) (u := .int .i64 ((p : Int) - s)) (own_set (i := 0) (u := .slice (some ⟨w1.heap.size, 0, none⟩) (p + 1 - s) (p + 1 - s)) hown hz1) hz1
    have ha3 := al_set (i := 1) (u := .int .i64 ((p : Int) - s)) (al_set (i := 0) (u := .slice (some ⟨w1.heap.size, 0, none⟩) (p + 1 - s) (p + 1 - s)) hAl hz1) hz1
    have hb4 := (hb3.setCell (p := ⟨w.heap.size + 1, 0, none⟩) (by show _ ≤ w.heap.size + 1; omega) (.slice (some ⟨w1.heap.size, 0, none⟩) (p + 1 - s) (p + 1 - s))).setCell (p := ⟨w.heap.size + 1, 1, none⟩) (by show _ ≤ w.heap.size + 1; omega) (.int .i64 ((p : Int) - s))
    generalize (w2.setCell ⟨w.heap.size + 1, 0, none⟩ (.slice (some ⟨w1.heap.size, 0, none⟩) (p + 1 - s) (p + 1 - s))).setCell ⟨w.heap.size + 1, 1, none⟩ (.int .i64 ((p : Int) - s)) = W3 at *
    have hr0 := hE3.cell 0
    have hr1 := hE3.cell 1
    simp only [List.set_cons_zero, List.set_cons_succ, List.getElem?_cons_zero, List.getElem?_cons_succ] at hr0 hr1
    refine bodyPost_ret (v := .agg #[.slice (some ⟨w1.heap.size, 0, none⟩) (p + 1 - s) (p + 1 - s), .int .i64 ((p : Int) - s)]) (by simp [results, Try.f24, go_sem, hr0, hr1]) rfl ⟨⟨w1.heap.size, p + 1 - s, p + 1 - s, ls⟩, ?_, ⟨own_mono ho3 (Nat.zero_le _), ha3.mono (Nat.zero_le _), by show ls.length = p + 1 - s; have := ho3.1; rw [fl_len] at this; omega, Nat.le_refl _⟩, ?_, hb4⟩
    · show Ending.returned (.agg #[.slice (some ⟨w1.heap.size, 0, none⟩) (p + 1 - s) (p + 1 - s), .int .i64 ((p : Int) - s)]) = .returned (.agg #[.slice (some ⟨w1.heap.size, 0, none⟩) (p + 1 - s) (p + 1 - s), .int .i64 (subR l p : Int)])
      have : (subR l p : Int) = (p : Int) - s := by unfold subR; rw [← HBP.out]; omega
      rw [this]
    · show ls.map AN.nd = _
      rw [hmap]; unfold subL; rw [← HBP.out]
  · exact (HSd.out.elim hno).elim
/-- a tree in a row -/
structure AT where
  A : Option Addr
  t : Tr
  c : Nat
def AT.cv (x : AT) : List Value := [.slice x.A x.t.1.length x.c, .int .i64 x.t.2]
def tfl (xs : List AT) : List Value := xs.flatMap AT.cv
theorem tfl_app (a b : List AT) : tfl (a ++ b) = tfl a ++ tfl b := List.flatMap_append
theorem tfl_len (xs : List AT) : (tfl xs).length = xs.length * 2 := by
  induction xs with
  | nil => rfl
  | cons x xs ih => show (x.cv ++ tfl xs).length = _; rw [List.length_append, ih, List.length_cons]; show 2 + _ = _; omega
theorem tfl_get : ∀ (ls : List AT) (j f : Nat) (hj : j < ls.length), f < 2 → (tfl ls)[j * 2 + f]? = (ls[j].cv)[f]?
  | [], _, _, hj, _ => by cases hj
  | x :: xs, 0, f, _, hf => by
    show (x.cv ++ tfl xs)[0 * 2 + f]? = _
    rw [List.getElem?_append_left (by show _ < 2; omega)]
    simp
  | x :: xs, j + 1, f, hj, hf => by
    show (x.cv ++ tfl xs)[(j + 1) * 2 + f]? = _
    rw [List.getElem?_append_right (by show 2 ≤ _; omega), show (j + 1) * 2 + f - x.cv.length = j * 2 + f by show (j + 1) * 2 + f - 2 = _; omega]
    exact tfl_get xs j f (by simpa using hj) hf
theorem one2 (x : AT) : ∀ u ∈ x.cv, u.oneCell' = true := fun u hu => by
  unfold AT.cv at hu
  simp at hu
  rcases hu with rfl | rfl <;> rfl
theorem trs_row {base n : Nat} {w : World} {v : Value} {xs : List AT} (hn : n = xs.length) (h : w.ownsRow base 30 2 v n (tfl xs)) (hA : ∀ x ∈ xs, Nds w x.A x.t.1 ∧ x.t.1.length ≤ x.c) : ∃ A c, v = .slice A n c ∧ Trs w A (xs.map AT.t) := by
  subst hn
  rcases h.2 with ⟨rfl, e⟩ | ⟨g, cap, cur, rfl, hb, hg, hn, _, _, ht⟩
  · exact ⟨none, 0, by rw [e], fun h0 => by simp at h0; omega⟩
  · refine ⟨_, _, rfl, fun h0 => ?_⟩
    refine ⟨g, 0, rfl, (Array.getElem?_eq_some_iff.1 hg).1, fun j hj => ?_⟩
    have hj' : j < xs.length := by simpa using hj
    have key : ∀ f, f < 2 → w.cell? ⟨g, 0 + j * 2 + f, none⟩ = (xs[j].cv)[f]? := fun f hf => by
      rw [cell_of_row w g _ cur 30 (0, 0) hg, Nat.zero_add, ← tfl_get xs j f hj' hf, ← ht, List.getElem?_take, if_pos (by omega)]
      simp
    rw [List.getElem_map]
    exact ⟨_, _, key 0 (by decide), key 1 (by decide), (hA _ (List.getElem_mem _)).1, (hA _ (List.getElem_mem _)).2⟩
theorem info30 : (Try.prog.info? 30).map (fun i => (i.zero, i.size, i.bytes)) = some (some (.agg #[.slice none 0 0, .int .i64 0]), 2, 32) := by kernel_rfl
section
variable {ops : Array Oper} {Q : Exit → Act → World → Prop} {S : World → Prop} {fuel : Nat} {listed : Array Bool} {a : Act} {w : World} {o : Oper}
/-- two operations that may come in any order -/
theorem h_two (i j : Nat) (oi oj : Oper) (hi : ops[i]? = some oi) (hj : ops[j]? = some oj) (hr : Region.ready .any ops listed = [i, j]) (hwi : Region.wanted oi (yielded ops a.tmps) = true) (hwj : Region.wanted oj (yielded ops a.tmps) = true)
    (h1 : oi.wp Try.prog a w (fun a' w' => S w' ∧ wpAnyH Try.prog .any ops Q S fuel (listed.setIfInBounds i true) a' w') Q) (h2 : oj.wp Try.prog a w (fun a' w' => S w' ∧ wpAnyH Try.prog .any ops Q S fuel (listed.setIfInBounds j true) a' w') Q) : wpAnyH Try.prog .any ops Q S (fuel + 1) listed a w :=
  wpAnyH_all hr (by simp) fun k hk => by
    have : k = i ∨ k = j := by simpa using hk
    rcases this with rfl | rfl
    · unfold wpOp
      simp only [hi, hwi, if_true]
      exact .inl h1
    · unfold wpOp
      simp only [hj, hwj, if_true]
      exact .inl h2
theorem call_wp {K : Act → World → Prop} {F : Nat} {xs : Array Operand} {ts : Array TypeId} {args : Array Value} {C : Value → World → Prop} (hF : Own F) (ho : o.op = .call { callee := .value (.func F), args := xs, argTypes := ts }) (ha' : (xs.toList.map a.eval).toArray = args)
    (hc : Calls Try.prog F args w fun e w' => ∃ v, e = .returned v ∧ C v w') (h : ∀ v w', C v w' → K (a.put o.dst v) w') : o.wp Try.prog a w K Q := by
  have ha : xs.map a.eval = args := by rw [← ha']; exact Array.ext' (by rw [Array.toList_map])
  unfold Oper.wp execOp
  have e : a.eval (.func F) = .func (.func F) #[] #[] := rfl
  have e2 : (#[] ++ args : Array Value) ++ #[] = args := by simp
  simp only [ho, resolve, e, ha, Deferred.ofValue, invoke, Sem.run_bind, Sem.run_pure, Result.andThen_ok]
  rw [e2, run_own hF]
  exact hc.mono fun e w' ⟨v, he, hR⟩ => by subst he; exact h v w' hR
theorem alloc_wp {K : Act → World → Prop} (ho : o.op = .alloc 30) (h : K (a.put o.dst (.pointer (some ⟨w.heap.size, 0, none⟩))) (w.alloc (.cells #[.slice none 0 0, .int .i64 0] 30))) : o.wp Try.prog a w K Q := by
  unfold Oper.wp execOp
  simp [ho, go_sem]
  exact h
theorem store_wp {K : Act → World → Prop} {x y : Operand} {g n c : Nat} {A : Option Addr} {r : Int} {u0 u1 : Value} (ho : o.op = .store 30 x y) (hx : a.eval x = .pointer (some ⟨g, 0, none⟩)) (hy : a.eval y = .agg #[.slice A n c, .int .i64 r]) (hB : Bx w g 30 [u0, u1])
    (h : K (a.put o.dst undef) ((w.setCell ⟨g, 0, none⟩ (.slice A n c)).setCell ⟨g, 1, none⟩ (.int .i64 r))) : o.wp Try.prog a w K Q := by
  have c0 := hB.cell 0
  have c1 := hB.cell 1
  have f0 := hB.frozen 0
  have f1 := hB.frozen 1
  simp only [List.getElem?_cons_zero, List.getElem?_cons_succ] at c0 c1
  unfold Oper.wp execOp
  simp only [ho, hx, hy]
  simp [go_sem, c0, c1, f0, f1]
  exact h
end
end Go.Proofs.Ytcnmkmdedeiffaa
