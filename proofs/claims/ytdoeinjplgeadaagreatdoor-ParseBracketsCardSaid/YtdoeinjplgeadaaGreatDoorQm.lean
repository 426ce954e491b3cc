/- PROVED here: what the tokens of a text are; the parser's nodes as a tree in memory; the contract of tooLarge. No condition but those in each theorem's own head. -/
import Derived.Test.YtdoeinjplgeadaaGreatDoorQh
import Derived.Test.YtdoeinjplgeadaaGreatDoorQk
import Derived.Test.YtdoeinjplgeadaaGreatDoorTkK
namespace Go.Proofs.YtdoeinjplgeadaaGreatDoor
open Go Go.RowKit
open Tr (Bx heap1 bt gen_world ret_int ret_bool cell_same)

def cvT (t : Tk.Tok) : Tok := ⟨t.k, t.n, t.p, t.s⟩
theorem tokK_le (l : List UInt8) : Tk.tokK l ≤ 4 := by
  unfold Tk.tokK
  split
  · exact Nat.le_refl _
  split
  · decide
  split
  · decide
  split
  · decide
  · decide
theorem cutN_rows : ∀ (f : Nat) (l : List UInt8) (p : Nat) (ts : List Tk.Tok), Tk.cutN f l p = .ok ts → ∃ ms : List Tk.Tok, ts = ms ++ [Tk.endT l.length] ∧ ms.length ≤ f ∧ ∀ t ∈ ms, t.k = Tk.tokK t.s ∧ t.k ≠ 0 ∧ t.s ≠ []
  | 0, l, p, ts, h => by
    simp only [Tk.cutN] at h
    injection h with h
    exact ⟨[], by rw [← h]; rfl, Nat.le_refl _, fun t ht => by cases ht⟩
  | f + 1, l, p, ts, h => by
    simp only [Tk.cutN] at h
    split at h
    case isFalse =>
      injection h with h
      exact ⟨[], by rw [← h]; rfl, Nat.zero_le _, fun t ht => by cases ht⟩
    case isTrue hp =>
      split at h
      · obtain ⟨ms, a, b, c⟩ := cutN_rows f l _ ts h
        exact ⟨ms, a, Nat.le_succ_of_le b, c⟩
      split at h
      · cases h
      · rename_i h0
        cases h1 : Tk.cutN f l (Tk.peF l p) with
        | bad q => rw [h1] at h; cases h
        | ok us =>
          rw [h1] at h
          obtain ⟨ms, a, b, c⟩ := cutN_rows f l _ us h1
          simp only [Tk.Res.pre] at h
          injection h with h
          refine ⟨Tk.pTok l p (Tk.peF l p) :: ms, by rw [← h, a]; rfl, by rw [List.length_cons]; omega, fun t ht => ?_⟩
          rcases List.mem_cons.1 ht with rfl | ht
          · refine ⟨rfl, h0, fun e => ?_⟩
            have e : Tk.sub l p (Tk.peF l p) = [] := e
            have e2 := congrArg List.length e
            have hb := Tk.peF_bounds hp
            simp [Tk.sub] at e2
            omega
          · exact c t ht
theorem cut_rows {l : List UInt8} {ts : List Tk.Tok} (h : Tk.cutR l 0 = .ok ts) : ∃ ms : List Tk.Tok, ts = ms ++ [Tk.endT l.length] ∧ ms.length ≤ l.length ∧ ∀ t ∈ ms, t.k = Tk.tokK t.s ∧ t.k ≠ 0 ∧ t.s ≠ [] := by
  obtain ⟨ms, a, b, c⟩ := cutN_rows (l.length - 0) l 0 ts h
  exact ⟨ms, a, by omega, c⟩
theorem map_last {ms : List Tk.Tok} {n : Nat} : (ms ++ [Tk.endT n]).map cvT = ms.map cvT ++ [⟨5, 0, n, []⟩] := by rw [List.map_append]; rfl
theorem ts_ok {l : List UInt8} {ts : List Tk.Tok} (h : Tk.cutR l 0 = .ok ts) : TsOk (ts.map cvT) := by
  obtain ⟨ms, rfl, hl, hm⟩ := cut_rows h
  rw [map_last]
  have hlen : (ms.map cvT ++ [(⟨5, 0, l.length, []⟩ : Tok)]).length = ms.length + 1 := by rw [List.length_append, List.length_map]; rfl
  refine ⟨by rw [hlen]; omega, fun i hi h1 => ?_, fun i hi h1 => ?_, fun hi => ?_, fun hi => ?_⟩
  · rw [hlen] at h1
    rw [List.getElem_append_left (by rw [List.length_map]; omega), List.getElem_map]
    exact (hm _ (List.getElem_mem _)).2.2
  · rw [hlen] at h1
    rw [List.getElem_append_left (by rw [List.length_map]; omega), List.getElem_map]
    show ms[i].k ≠ 5
    have a := hm _ (List.getElem_mem (show i < ms.length by omega))
    have b := tokK_le ms[i].s
    rw [a.1]; omega
  · rw [List.getElem_append_right (by rw [hlen, List.length_map]; omega)]
    simp
  · rw [List.getElem_append_right (by rw [hlen, List.length_map]; omega)]
    simp
theorem ts_len {l : List UInt8} {ts : List Tk.Tok} (h : Tk.cutR l 0 = .ok ts) : ts.length ≤ l.length + 1 := by
  obtain ⟨ms, rfl, hl, _⟩ := cut_rows h
  rw [List.length_append]; show ms.length + 1 ≤ _; omega
theorem kind_ok {l : List UInt8} {ts : List Tk.Tok} (h : Tk.cutR l 0 = .ok ts) : KindOk (ts.map cvT) := by
  obtain ⟨ms, rfl, hl, hm⟩ := cut_rows h
  rw [map_last]
  intro t ht
  rcases List.mem_append.1 ht with ht | ht
  · obtain ⟨u, hu, rfl⟩ := List.mem_map.1 ht
    have a := hm u hu
    have b := tokK_le u.s
    refine ⟨fun e => ?_, fun e => ?_⟩
    · have e4 : u.k = 4 := by
        rw [a.1]
        rcases e with e | e <;> (have e : u.s = _ := e; rw [e]; decide)
      show u.k ≠ 1 ∧ u.k ≠ 2
      omega
    · have e : u.k = 5 := e
      rw [a.1] at e
      omega
  · obtain rfl := List.mem_singleton.1 ht
    exact ⟨fun e => (by rcases e with e | e <;> cases e), fun _ => rfl⟩
theorem toks_cv {w : World} {A : Option Addr} {ts : List Tk.Tok} (h : Tk.Toks w A ts) : Toks w A (ts.map cvT) := fun h0 => by
  obtain ⟨b, off, e, hl, hc⟩ := h (by rwa [List.length_map] at h0)
  refine ⟨b, off, e, hl, fun j hj i hi => ?_⟩
  rw [hc j (by rwa [List.length_map] at hj) i hi, List.getElem_map]
  rfl
/-- nodes, as the trees' texts have them -/
def cvN (x : Nd) : Tr.Nd := ⟨x.kd, x.n, x.pl, bs x.tx, x.ks⟩
theorem ints_of {X : Nat → Prop} {w : World} {K : Option Addr} {ks : List Int} (h : Kd w X K ks) : Tr.Ints w K ks := fun h0 => by
  obtain ⟨b, cs, e, hb, hc, _⟩ := h h0
  refine ⟨b, 0, e, (Array.getElem?_eq_some_iff.1 hb).1, fun j hj => ?_⟩
  rw [Nat.zero_add, cell_of_row w b j cs 3 (0, 0) hb]
  exact hc j hj
theorem nds_of {X : Nat → Prop} {w : World} {base : Nat} {V : Value} {nd : List Nd} (h : Nodes w X base V nd) : ∃ A c, V = .slice A nd.length c ∧ Tr.Nds w A (nd.map cvN) ∧ ∀ a, A = some a → base ≤ a.block := by
  obtain ⟨xs, hown, hcs⟩ := h
  have hcell := fun (b : Nat) (q : V.ownBlock = some b) => hown.cells (g := b) q
  rcases hown.2 with ⟨e1, e2⟩ | ⟨b, cap, cur, e1, e2, e3, _⟩
  · refine ⟨none, 0, by rw [e1, e2], fun h0 => ?_, fun a e => (by cases e)⟩
    rw [List.length_map] at h0; omega
  · refine ⟨_, cap, e1, fun h0 => ⟨b, 0, rfl, (Array.getElem?_eq_some_iff.1 e3).1, fun j hj => ?_⟩, fun a e => by injection e with e; subst e; exact e2⟩
    rw [List.length_map] at hj
    obtain ⟨K, c, e, hk⟩ := hcs j hj
    have hc := hcell b (by rw [e1]; rfl)
    have get : ∀ i u, i < 5 → ([.int .i64 nd[j].kd, .int .i64 nd[j].n, .int .i64 nd[j].pl, .string (bs nd[j].tx), .slice K nd[j].ks.length c] : List Value)[i]? = some u → w.cell? ⟨b, 0 + j * 5 + i, none⟩ = some u := fun i u hi hu => by
      rw [← e, List.getElem?_take, if_pos hi, List.getElem?_drop] at hu
      have := hc _ _ hu
      rw [Nat.zero_add]
      rwa [show (⟨b, 0, none⟩ : Addr).add (j * 5 + i) = ⟨b, j * 5 + i, none⟩ by simp [Addr.add]; omega] at this
    simp only [List.getElem_map]
    refine ⟨K, c, ?_, get 1 _ (by decide) rfl, get 2 _ (by decide) rfl, get 3 _ (by decide) rfl, get 4 _ (by decide) rfl, ints_of hk⟩
    have := get 0 _ (by decide) rfl
    rwa [Nat.add_zero] at this
set_option maxRecDepth 100000 in
set_option maxHeartbeats 1500000 in
theorem tooLarge_any {w : World} (A : Option Addr) (c n : Nat) (l : List Tr.Nd) (r : Int) (hN : Tr.Nds w A l) (hn : n = l.length) (hk : ∀ x ∈ l, x.ks.length ≤ l.length) : Calls Tryz.prog 39 #[.agg #[.slice A n c, .int .i64 r]] w (VPost (.int .i64 (if 4000 < n then 8 else if 40 < Tr.dpt l r then 6 else 0)) w) := by
  have hb : Below w.heap.size w (w.alloc (.cells #[.slice A n c, .int .i64 r] 25)) := heap1 _ _
  by_cases h4 : 4000 < n
  · rw [if_pos h4]
    have d : ((4000 : Int) < (n : Int)) := by omega
    clear hN hn hk h4
    go_enter Tryz.func39, Tryz.ntmps39
    go_wp2
    go_ret
    exact ⟨rfl, hb⟩
  · rw [if_neg h4]
    have d : ¬ ((4000 : Int) < (n : Int)) := by omega
    have HD := Lib.hid (Tr.depth_any A c n l r _ (hN.below hb) hn (fun x hx => by have := hk x hx; omega))
    generalize Tr.dpt l r = dd at *
    by_cases h5 : 40 < dd
    · rw [if_pos h5]
      have d5 : ((40 : Int) < (dd : Int)) := by omega
      clear hN hn hk h4 h5
      go_enter Tryz.func39, Tryz.ntmps39
      go_wp2_with (go_at_call 18; refine HD.out.mono ?_; rintro e w1 ⟨rfl, hb1⟩)
      go_ret
      exact ⟨rfl, bt hb hb1⟩
    · rw [if_neg h5]
      have d5 : ¬ ((40 : Int) < (dd : Int)) := by omega
      clear hN hn hk h4 h5
      go_enter Tryz.func39, Tryz.ntmps39
      go_wp2_with (go_at_call 18; refine HD.out.mono ?_; rintro e w1 ⟨rfl, hb1⟩)
      go_ret
      exact ⟨rfl, bt hb hb1⟩
end Go.Proofs.YtdoeinjplgeadaaGreatDoor
