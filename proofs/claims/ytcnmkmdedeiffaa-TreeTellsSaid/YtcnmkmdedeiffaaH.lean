/- PROVED here: the contract of Sub. No condition but those in each theorem's own head. -/
import Derived.Test.YtcnmkmdedeiffaaG
namespace Go.Proofs.Ytcnmkmdedeiffaa
open Go Go.RowKit

/-- where the trees of the nodes below n start -/
def stF (l : List Nd) : Nat → Nat → Nat
  | 0 => fun _ => 0
  | n + 1 => fun j => if j = n then (stK (stF l n) (kidsAt l n).reverse n).getD 0 else stF l n j
theorem stF_is {l : List Nd} {b : Nat → Nat} : ∀ {n : Nat}, StU l b n → ∀ q, q < n → stF l n q = b q
  | 0, _, q, hq => absurd hq (Nat.not_lt_zero q)
  | n + 1, h, q, hq => by
    have ih := stF_is (fun p hp => h p (by omega) : StU l b n)
    show (if q = n then (stK (stF l n) (kidsAt l n).reverse n).getD 0 else stF l n q) = _
    by_cases e : q = n
    · subst e
      rw [if_pos rfl, stK_congr _ q ih (fun r hr => by rw [ih r hr]; exact h.le r (by omega)), h q (by omega)]; rfl
    · rw [if_neg e]; exact ih q (by omega)
/-- the tree of a node -/
def subL (l : List Nd) (p : Nat) : List Nd := ((l.take (p + 1)).drop (stF l l.length p)).map (mvN (-(stF l l.length p : Int)))
def subR (l : List Nd) (p : Nat) : Nat := p - stF l l.length p
/-- a tree that is answered -/
def TPost (l : List Nd) (r : Int) (w : World) (e : Ending) (w' : World) : Prop := ∃ A c, e = .returned (.agg #[.slice A l.length c, .int .i64 r]) ∧ Nds w' A l ∧ l.length ≤ c ∧ Below w.heap.size w w'
theorem slice28 (b off n c s p : Nat) (pp : Int) (hp : pp = (p : Int) + 1) (h1 : s ≤ p) (h2 : p + 1 ≤ c) (w : World) : (Instr.slice 28 (.slice (some ⟨b, off, none⟩) n c) (some (.int .i64 (s : Int))) (some (.int .i64 pp)) none).run Try.prog w = .ok (.slice (some ⟨b, off + s * 5, none⟩) (p + 1 - s) (c - s)) w := by
  subst hp
  have h3 : s ≤ p + 1 := by omega
  have h4 : ((p : Int) + 1).toNat = p + 1 := by omega
  simp [go_sem, Try.underlying28, h4, h3]
  rw [if_pos (by omega), if_neg (by omega)]
theorem subL_len {l : List Nd} {p : Nat} (hp : p < l.length) : (subL l p).length = p + 1 - stF l l.length p := by
  unfold subL; rw [List.length_map, List.length_drop, List.length_take]; omega
theorem own_set {base k i n : Nat} {e : TypeId} {size : Nat} {v u : Value} {xs : List Value} {w : World} (h : w.ownsRow base e size v n xs) (hk : k < base) : (w.setCell ⟨k, i, none⟩ u).ownsRow base e size v n xs := by
  refine ⟨h.1, h.2.imp id ?_⟩
  rintro ⟨g, cap, cur, h1, h2, h3, h4⟩
  exact ⟨g, cap, cur, h1, h2, (heap_setCell_other w _ g _ (by show g ≠ k; omega)).trans h3, h4⟩
theorem al_set {base k i : Nat} {u : Value} {ls : List AN} {w : World} (h : Al base w ls) (hk : k < base) : Al base (w.setCell ⟨k, i, none⟩ u) ls := h.keep fun b hb _ _ _ => heap_setCell_other w _ b _ (by show b ≠ k; omega)
/-- nodes that have been made, as a tree that is answered -/
theorem tpost_own {base n : Nat} {c : Nat} {A : Option Addr} {ls : List AN} {l : List Nd} {r r' : Int} {w w' : World} (h : w'.ownsRow base 24 5 (.slice A n c) n (fl ls)) (hA : Al base w' ls) (hm : ls.map AN.nd = l) (hb : Below w.heap.size w w') (hr : r = r') : TPost l r w (.returned (.agg #[.slice A n c, .int .i64 r'])) w' := by
  have hl : ls.length = n := by have := h.1; rw [fl_len] at this; omega
  have hl2 : l.length = n := by rw [← hm, List.length_map, hl]
  subst hr
  have h' := h
  rw [← hl] at h'
  obtain ⟨A', c', e, hN, _⟩ := nds_own h' hA
  rw [hl] at e
  cases e
  rw [hm] at hN
  have hc : n ≤ c := by
    rcases h.2 with ⟨e1, e2⟩ | ⟨g, cap, cur, e1, _, _, h3, _⟩
    · omega
    · cases e1; exact h3
  exact ⟨A, c, by rw [hl2], hN, by omega, hb⟩
set_option maxRecDepth 100000 in
set_option maxHeartbeats 1500000 in
theorem sub_yes (A : Option Addr) (c n : Nat) (l : List Nd) (r : Int) (p : Nat) (w : World) (hN : Nds w A l) (hn : n = l.length) (hc : n ≤ c) (hk : ∀ x ∈ l, x.ks.length ≤ 4000) (h : Snd l r) (hp : p < n) : Calls Try.prog 24 #[.agg #[.slice A n c, .int .i64 r], .int .i64 (p : Int)] w (TPost (subL l p) (subR l p : Int) w) := by
  have e0 : ∀ (w' : World) (o : Obj), (w'.alloc o).heap.size = w'.heap.size + 1 := fun w' o => World.size_alloc w' o
  obtain ⟨W, hW⟩ : ∃ W, (w.alloc (.cells #[.slice A n c, .int .i64 r] 30)).alloc (.cells #[.slice none 0 0, .int .i64 0] 30) = W := ⟨_, rfl⟩
  have hb : Below w.heap.size w W := by rw [← hW]; exact (heap1 _ _).alloc (by rw [e0]; omega) _
  have hsz : W.heap.size = w.heap.size + 1 + 1 := by rw [← hW, e0, e0]
  have hB1 : Bx W w.heap.size 30 [.slice A n c, .int .i64 r] := by rw [← hW]; exact (Bx.new w 30 _).alloc _
  have hB2 : Bx W (w.heap.size + 1) 30 [.slice none 0 0, .int .i64 0] := by
    rw [← hW]
    have := Bx.new (w.alloc (.cells #[.slice A n c, .int .i64 r] 30)) 30 [.slice none 0 0, .int .i64 0]
    rw [e0] at this; exact this
  have HS := Lib.hid (starts_any A c n l r W (hN.below hb) hn hk)
  have HN := Lib.hid hN
  have HL := Lib.hid hn
  have HK := Lib.hid hk
  have HSd := Lib.hid h
  clear hN hn hk h
  have hct0 := hB1.cell 0
  have hct1 := hB1.cell 1
  simp only [List.getElem?_cons_zero, List.getElem?_cons_succ] at hct0 hct1
  go_enter Try.func24, Try.ntmps24
  go_wp2_with (go_at_call 27; refine HS.out.mono ?_)
  clear HS
  rintro e w1 ⟨hb1, ⟨b, g, hS, rfl, hI, hg⟩ | ⟨hno, rfl⟩⟩
  · have hbp : b p = stF l l.length p := (stF_is hS.2.2.2.1 p (by rw [← HL.out]; exact hp)).symm
    have hble := hS.2.2.2.1.le p (by rw [← HL.out]; exact hp)
    have hn4 := hS.2.1
    rw [← HL.out] at hI hn4 ⊢
    have hcg := hI.cell hp
    obtain ⟨bA, off, rfl, hbA, _⟩ := HN.out (by have := HL.out; omega)
    have HN1 := Lib.hid ((((HN.out.below hb).below hb1)).sub (b p) (p + 1) (by rw [← HL.out]; omega))
    have HSU := Lib.hid hS.2.2.2.1
    have hD1 := hB1.below hb1 (by omega)
    have hD2 := hB2.below hb1 (by omega)
    have hct0 := hD1.cell 0
    have hct1 := hD1.cell 1
    simp only [List.getElem?_cons_zero, List.getElem?_cons_succ] at hct0 hct1
    clear hS hI hB1 hB2 hW hg HSd
    obtain ⟨s, hs⟩ : ∃ s, s = b p := ⟨_, rfl⟩
    rw [← hs] at hcg hbp hble HN1
    clear hs
    have hlen : (((l.take (p + 1)).drop s)).length = p + 1 - s := by rw [List.length_drop, List.length_take]; have := HL.out; omega
    have HM := Lib.hid (fun d => moved_any (some ⟨bA, off + s * 5, none⟩) (c - s) (p + 1 - s) ((l.take (p + 1)).drop s) d w1 HN1.out hlen.symm (by omega) (fun x hx => HK.out x (List.mem_of_mem_take (List.mem_of_mem_drop hx))))
    have hsl := slice28 bA off n c s p ((p : Int) + 1) rfl hble (by omega)
    have hpz : (p : Int) < (n : Int) := by omega
    have HBP := Lib.hid hbp
    clear hbp hlen
    go_wp2_with (go_at_call 26; refine (HM.out _).mono ?_)
    rintro e w2 ⟨ls, rfl, hown, hmap, hAl, hb2⟩
    have hE2 := hD2.below hb2 (by have := hb1.size; omega)
    have hcr0 := hE2.cell 0
    have hcr1 := hE2.cell 1
    have hfr0 := hE2.frozen 0
    have hfr1 := hE2.frozen 1
    simp only [List.getElem?_cons_zero, List.getElem?_cons_succ] at hcr0 hcr1
    have hb3 := bt (bt hb hb1) hb2
    go_wp2
    have hE3 := (hE2.set_ 0 (.slice (some ⟨w1.heap.size, 0, none⟩) (p + 1 - s) (p + 1 - s))).set_ 1 (.int .i64 ((p : Int) - s))
    have hz1 : w.heap.size + 1 < w1.heap.size := by have := hb1.size; omega
    have ho3 := own_set (i := 1) (u := .int .i64 ((p : Int) - s)) (own_set (i := 0) (u := .slice (some ⟨w1.heap.size, 0, none⟩) (p + 1 - s) (p + 1 - s)) hown hz1) hz1
    have ha3 := al_set (i := 1) (u := .int .i64 ((p : Int) - s)) (al_set (i := 0) (u := .slice (some ⟨w1.heap.size, 0, none⟩) (p + 1 - s) (p + 1 - s)) hAl hz1) hz1
    have hb4 := (hb3.setCell (p := ⟨w.heap.size + 1, 0, none⟩) (by show _ ≤ w.heap.size + 1; omega) (.slice (some ⟨w1.heap.size, 0, none⟩) (p + 1 - s) (p + 1 - s))).setCell (p := ⟨w.heap.size + 1, 1, none⟩) (by show _ ≤ w.heap.size + 1; omega) (.int .i64 ((p : Int) - s))
    generalize (w2.setCell ⟨w.heap.size + 1, 0, none⟩ (.slice (some ⟨w1.heap.size, 0, none⟩) (p + 1 - s) (p + 1 - s))).setCell ⟨w.heap.size + 1, 1, none⟩ (.int .i64 ((p : Int) - s)) = W3 at *
    have hr0 := hE3.cell 0
    have hr1 := hE3.cell 1
    simp only [List.set_cons_zero, List.set_cons_succ, List.getElem?_cons_zero, List.getElem?_cons_succ] at hr0 hr1
    refine bodyPost_ret (v := .agg #[.slice (some ⟨w1.heap.size, 0, none⟩) (p + 1 - s) (p + 1 - s), .int .i64 ((p : Int) - s)]) (by simp [results, Try.f24, go_sem, hr0, hr1]) rfl (tpost_own ho3 ha3 ?_ hb4 ?_)
    · rw [hmap]; unfold subL; rw [← HBP.out]
    · unfold subR; rw [← HBP.out]; omega
  · exact (HSd.out.elim hno).elim
set_option maxRecDepth 100000 in
set_option maxHeartbeats 1500000 in
theorem sub_no (A : Option Addr) (c n : Nat) (l : List Nd) (r pl : Int) (w : World) (hN : Nds w A l) (hn : n = l.length) (hk : ∀ x ∈ l, x.ks.length ≤ 4000) (h : ¬ Snd l r ∨ pl < 0 ∨ (n : Int) ≤ pl) : Calls Try.prog 24 #[.agg #[.slice A n c, .int .i64 r], .int .i64 pl] w (TPost [] 0 w) := by
  have e0 : ∀ (w' : World) (o : Obj), (w'.alloc o).heap.size = w'.heap.size + 1 := fun w' o => World.size_alloc w' o
  obtain ⟨W, hW⟩ : ∃ W, (w.alloc (.cells #[.slice A n c, .int .i64 r] 30)).alloc (.cells #[.slice none 0 0, .int .i64 0] 30) = W := ⟨_, rfl⟩
  have hb : Below w.heap.size w W := by rw [← hW]; exact (heap1 _ _).alloc (by rw [e0]; omega) _
  have hsz : W.heap.size = w.heap.size + 1 + 1 := by rw [← hW, e0, e0]
  have hB1 : Bx W w.heap.size 30 [.slice A n c, .int .i64 r] := by rw [← hW]; exact (Bx.new w 30 _).alloc _
  have hB2 : Bx W (w.heap.size + 1) 30 [.slice none 0 0, .int .i64 0] := by
    rw [← hW]
    have := Bx.new (w.alloc (.cells #[.slice A n c, .int .i64 r] 30)) 30 [.slice none 0 0, .int .i64 0]
    rw [e0] at this; exact this
  have HS := Lib.hid (show Calls Try.prog 27 #[.agg #[.slice A n c, .int .i64 r]] W (fun e w' => (∃ B k c', e = .returned (.slice B k c') ∧ (pl < 0 ∨ (k : Int) ≤ pl)) ∧ Below W.heap.size W w') from (starts_any A c n l r W (hN.below hb) hn hk).mono (by
    rintro e w1 ⟨hb1, ⟨b, g, hS, rfl, hI, hg⟩ | ⟨hno, rfl⟩⟩
    · refine ⟨⟨_, _, _, rfl, ?_⟩, hb1⟩
      rcases h with h | h | h
      · exact (h ⟨b, hS⟩).elim
      · exact .inl h
      · right; omega
    · exact ⟨⟨_, _, _, rfl, by omega⟩, hb1⟩))
  clear hN hn hk h
  have hct0 := hB1.cell 0
  have hct1 := hB1.cell 1
  simp only [List.getElem?_cons_zero, List.getElem?_cons_succ] at hct0 hct1
  go_enter Try.func24, Try.ntmps24
  go_wp2_with (go_at_call 27; refine HS.out.mono ?_)
  clear HS
  rintro e w1 ⟨⟨B, k, c', rfl, hor⟩, hb1⟩
  have hE2 := hB2.below hb1 (by omega)
  have hcr0 := hE2.cell 0
  have hcr1 := hE2.cell 1
  have hfr0 := hE2.frozen 0
  have hfr1 := hE2.frozen 1
  simp only [List.getElem?_cons_zero, List.getElem?_cons_succ] at hcr0 hcr1
  have hb3 := bt hb hb1
  have hb4 := (hb3.setCell (p := ⟨w.heap.size + 1, 0, none⟩) (by show _ ≤ w.heap.size + 1; omega) (.slice none 0 0)).setCell (p := ⟨w.heap.size + 1, 1, none⟩) (by show _ ≤ w.heap.size + 1; omega) (.int .i64 0)
  have hE3 := (hE2.set_ 0 (.slice none 0 0)).set_ 1 (.int .i64 0)
  have HB4 := Lib.hid hb4
  have HE3 := Lib.hid hE3
  clear hb hb3 hB1 hB2 hW hb1 hE2 hb4 hE3
  have fin : ∀ W3 : World, Bx W3 (w.heap.size + 1) 30 [.slice none 0 0, .int .i64 0] → Below w.heap.size w W3 → TPost [] 0 w (.returned (.agg #[.slice none 0 0, .int .i64 0])) W3 := fun W3 _ hb => ⟨none, 0, rfl, fun h => absurd h (Nat.lt_irrefl 0), Nat.le_refl _, hb⟩
  by_cases h1 : pl < 0
  · have hd : decide (pl < 0) = true := decide_eq_true h1
    go_wp2
    have hr0 := HE3.out.cell 0
    have hr1 := HE3.out.cell 1
    have hF := fin _ HE3.out HB4.out
    generalize (w1.setCell ⟨w.heap.size + 1, 0, none⟩ (.slice none 0 0)).setCell ⟨w.heap.size + 1, 1, none⟩ (.int .i64 0) = W3 at *
    simp only [List.set_cons_zero, List.set_cons_succ, List.getElem?_cons_zero, List.getElem?_cons_succ] at hr0 hr1
    exact bodyPost_ret (v := .agg #[.slice none 0 0, .int .i64 0]) (by simp [results, Try.f24, go_sem, hr0, hr1]) rfl hF
  · have hd : decide (pl < 0) = false := decide_eq_false h1
    have hd2 : (k : Int) ≤ pl := by omega
    clear hor
    go_wp2
    have hr0 := HE3.out.cell 0
    have hr1 := HE3.out.cell 1
    have hF := fin _ HE3.out HB4.out
    generalize (w1.setCell ⟨w.heap.size + 1, 0, none⟩ (.slice none 0 0)).setCell ⟨w.heap.size + 1, 1, none⟩ (.int .i64 0) = W3 at *
    simp only [List.set_cons_zero, List.set_cons_succ, List.getElem?_cons_zero, List.getElem?_cons_succ] at hr0 hr1
    exact bodyPost_ret (v := .agg #[.slice none 0 0, .int .i64 0]) (by simp [results, Try.f24, go_sem, hr0, hr1]) rfl hF
end Go.Proofs.Ytcnmkmdedeiffaa
