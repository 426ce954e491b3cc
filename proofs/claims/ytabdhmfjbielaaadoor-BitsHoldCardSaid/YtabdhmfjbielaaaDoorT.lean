/- PROVED here: the contract of Text, where the library's tables are as its text lays them. No condition but those in each theorem's own head. -/
import Derived.Test.YtabdhmfjbielaaaDoorS
namespace Go.Proofs.YtabdhmfjbielaaaDoor
open Go Go.RowKit

theorem own_below {w w' : World} {base e size n : Nat} {v : Value} {xs : List Value} (h : w.ownsRow base e size v n xs) (hb : Below w.heap.size w w') : w'.ownsRow base e size v n xs :=
  h.kept (row := none) ⟨hb.os, hb.tape, hb.output, hb.size, fun i hi _ => hb.block i hi⟩ (by cases h : v.ownBlock <;> simp)
theorem info9 : (Tryd.prog.info? 9).map (fun i => (i.zero, i.size, i.bytes)) = some (some (.string ⟨#[]⟩), 1, 16) := by kernel_rfl
def strs (l : List (List UInt8)) : List Value := l.map fun p => Value.string (tx p)
theorem join_call {w : World} {base : Nat} {v : Value} {l : List (List UInt8)} (h : w.ownsRow base 9 1 v l.length (strs l)) (h43 : ∀ p ∈ l, p.length ≤ 43) (hl : l.length ≤ 4096) :
    Calls Tryd.prog 42 #[v, .string (tx [44])] w fun e w' => e = .returned (.string (tx (Lib.join l [44]))) ∧ Below w.heap.size w w' := by
  by_cases h0 : l = []
  · subst h0
    rcases h.2 with ⟨rfl, _⟩ | ⟨g, cap, cur, rfl, _⟩
    · exact (Tryd.strings_Join_none none 0 _ w).mono fun _ _ ⟨he, hw⟩ => ⟨he, by rw [hw]; exact Below.refl _ _⟩
    · exact (Tryd.strings_Join_none (some ⟨g, 0, none⟩) cap _ w).mono fun _ _ ⟨he, hw⟩ => ⟨he, by rw [hw]; exact Below.refl _ _⟩
  · have hp : 0 < l.length := List.length_pos_iff.2 h0
    rcases h.2 with ⟨_, e⟩ | ⟨g, cap, cur, rfl, _, hg, hn, _, _, ht⟩
    · omega
    · have hlt : g < w.heap.size := (Array.getElem?_eq_some_iff.1 hg).1
      have e1 : (l.map tx).length = l.length := by simp
      have e2 : (l.map tx).map (·.data.toList) = l := by rw [List.map_map]; exact List.map_id'' (fun x => by simp [tx]) l
      have hj := join_len l h43
      have key := Tryd.strings_Join g 0 cap (l.map tx) (tx [44]) w (fun j x hx => by
        rw [Nat.zero_add, cell_of_row w g j cur 9 (0, 0) hg]
        have hjl : j < l.length := by have := (List.getElem?_eq_some_iff.1 hx).1; simpa using this
        have h2 : (cur.toList.take (l.length * 1))[j]? = some (.string x) := by
          rw [ht]
          unfold strs
          rw [List.getElem?_map] at hx ⊢
          cases hq : l[j]? with
          | none => rw [hq] at hx; cases hx
          | some p => rw [hq] at hx; simp at hx; simp [hx]
        rw [List.getElem?_take, if_pos (by omega)] at h2
        simpa using h2) hlt (by rw [e1]; omega) (by rw [e1]; exact hn) (by rw [e2]; show (Lib.join l [44]).length ≤ _; omega)
      rw [e1, e2] at key
      exact key

theorem meas_lt (x : Int) (k m : Nat) (hk : k < 4096) (h1 : k ≤ m) (h : x = -1 ∨ (m : Int) + 1 ≤ x) : (if x < 0 then 0 else (4096 - x).toNat) < (if (k : Int) < 0 then 0 else (4096 - (k : Int)).toNat) := by
  rw [if_neg (show ¬ (k : Int) < 0 by omega)]
  by_cases hx : x < 0
  · rw [if_pos hx]; omega
  · rw [if_neg hx]; omega
set_option maxRecDepth 100000 in
set_option maxHeartbeats 4000000 in
theorem text_core (s : Nat) (r : List UInt8) (H : Hid (textF s = r)) (hs : Hid (Small s)) (w : World) (HT : Hid (∀ w', Below w.heap.size w w' → Tabs w')) : Calls Tryd.prog 21 #[.agg (ofF (wd s))] w fun e w' => e = .returned (.string (tx r)) ∧ Below w.heap.size w w' := by
  obtain ⟨i0, hi, hz0, hz1, hz2⟩ := info_parts info9
  have n0 : ∀ w1, Tabs w1 → Calls Tryd.prog 19 #[.agg (ofF (wd s)), .int .i64 0] w1 fun e w' => e = .returned (.int .i64 (nextF s 0)) ∧ Below w1.heap.size w1 w' := fun w1 h => Next s 0 w1 h
  have TI0 := Lib.hid (TI_start s)
  have rg := nextF_range s 0
  generalize nextF s 0 = q at n0 TI0 rg
  have N0 := Lib.hid n0
  clear n0
  go_enter Tryd.func21, Tryd.ntmps21
  go_upto_region 2 with fail
  refine gen_world (fun w1 => Below w.heap.size w w1 ∧ w1.heap.size = w.heap.size + 1 ∧ Blk w1 w.heap.size (ofF (wd s))) ⟨heap1 w _, by simp, heap_alloc_new w _⟩ ?_
  rintro w1 ⟨hb, hz, h1⟩
  go_wp2_with (first
    | ((with_reducible apply load_lit); (exact rfl); assumption)
    | (go_at_call 19; refine (N0.out _ (HT.out _ hb)).mono ?_; rintro e w2 ⟨rfl, hb2⟩))
  have hb3 : Below w.heap.size w w2 := hb.trans (hb2.mono hb.size)
  have h3 : Blk w2 w.heap.size (ofF (wd s)) := (hb2.block _ (by omega)).trans h1
  have hz3 : w.heap.size < w2.heap.size := by have := hb2.size; omega
  clear hb hz h1 hb2 N0
  go_loopw [3, 4] (fun v n wr => ∃ (done : List (List UInt8)) (x : Int), n = .int .i64 x ∧ Hid (TI s done x) ∧ wr.ownsRow (w.heap.size + 1) 9 1 v done.length (strs done) ∧ Below w.heap.size w wr ∧ w.heap.size < wr.heap.size ∧ Blk wr w.heap.size (ofF (wd s)))
    (fun _ n _ => if intOf n < 0 then 0 else (4096 - intOf n).toNat)
  case atStart => exact ⟨[], q, rfl, TI0, World.ownsRow_nil _ _ _ _, hb3, hz3, h3⟩
  case round =>
    clear hb3 hz3 h3 TI0 rg
    obtain ⟨done, x, rfl, HTI, hown, hb, hz, h1⟩ := hrel
    by_cases hx : x < 0
    · have hxd : decide ((0 : Int) ≤ x) = false := by simp; omega
      have HE := Lib.hid (TI_end HTI.out hx)
      have HJ := Lib.hid (join_call hown (by obtain ⟨_, _, _, _, _, _, h43⟩ := HTI.out; exact h43) (by obtain ⟨_, _, h, _⟩ := HTI.out; omega))
      go_wp2_with (first | (go_at_call 42; refine HJ.out.mono ?_; rintro e w3 ⟨rfl, hb3⟩))
      go_ret
      exact ⟨by rw [← H.out, ← HE.out]; rfl, hb.trans (hb3.mono hb.size)⟩
    · have hxd : decide ((0 : Int) ≤ x) = true := by simp; omega
      obtain ⟨k, rfl⟩ : ∃ k : Nat, x = k := ⟨x.toNat, by omega⟩
      have hdl : done.length ≤ 4096 := by obtain ⟨_, _, h, _⟩ := HTI.out; omega
      have hk : k < 4096 := by obtain ⟨_, _, _, _, h, _⟩ := HTI.out; omega
      obtain ⟨r1, r2, r3⟩ := reF_spec hs.out (k := k) hk
      clear r3
      have HTI2 := Lib.hid (TI_step hs.out HTI.out)
      have hg := nextF_ge (s := s) (n := (reF s k : Int) + 1)
      have hgr := nextF_range s ((reF s k : Int) + 1)
      have c1 := fun w => runEnd s k hs.out (by omega) w
      have c2 := fun w h => runText k (reF s k) r1 r2 w h
      have c3 := fun w h => Next s ((reF s k : Int) + 1) w h
      generalize nextF s ((reF s k : Int) + 1) = x2 at *
      generalize reF s k = m at *
      have C1 := Lib.hid c1
      have C2 := Lib.hid c2
      have C3 := Lib.hid c3
      have HG := Lib.hid hg
      clear c1 c2 c3 hg
      go_wp2_with (first
        | ((with_reducible apply load_lit); (exact rfl); assumption)
        | (go_at_call 40; refine (C1.out _).mono ?_; rintro e w2 ⟨rfl, hb2⟩; have hb2' : Below w.heap.size w w2 := hb.trans (hb2.mono hb.size))
        | (go_at_call 41; refine (C2.out _ (HT.out _ hb2')).mono ?_; rintro e w3 ⟨rfl, hb3⟩; have hb3' : Below w.heap.size w w3 := hb2'.trans (hb3.mono hb2'.size); have hown3 := own_below (own_below hown hb2) hb3)
        | (at_builtin; refine wpList_append_own _ rfl _ _ 50 rfl (w.heap.size + 1) 9 i0 (.string ⟨#[]⟩) 1 16 Tryd.underlying50 hi hz0 hz1 hz2 rfl (by decide) _ _ _ rfl (hown3.alloc _) ⟨w3.heap.size, 0, none⟩ 1 1 [.string (tx (rt k m))] rfl rfl ?c1 ?c2 ?c3 ?c4 ?c5 ?_))
      case c1 =>
        intro j u hj
        match j, hj with
        | 0, hj => simp at hj; subst hj; simp [Addr.add]
      case c2 => intro u hu; simp at hu; subst hu; rfl
      case c3 => unfold maxLen; omega
      case c4 => omega
      case c5 => have := hb3'.size; have := hb3.size; have := hb2.size; simp; omega
      intro v' w4 hown4 hgrow4 _
      have hb4 : Below w.heap.size w w4 := (hb3'.alloc hb3'.size _).grown hgrow4 (by have := hb3'.size; simp; omega) (fun q hq => by have := (hown3.lt q hq).1; omega)
      have h4 : Blk w4 w.heap.size (ofF (wd s)) := by
        refine (hgrow4.block w.heap.size (by have := hb3.size; have := hb2.size; simp; omega) (fun e => by have := (hown3.lt _ e.symm).1; omega)).trans ?_
        refine (Below.heap_alloc _ _ _ (by have := hb3.size; have := hb2.size; omega)).trans ?_
        exact (hb3.block _ (by have := hb2.size; omega)).trans ((hb2.block _ hz).trans h1)
      have hz4 : w.heap.size < w4.heap.size := by have := hgrow4.size; have := hb3.size; have := hb2.size; simp at *; omega
      have hown5 : w4.ownsRow (w.heap.size + 1) 9 1 v' (done ++ [rt k m]).length (strs (done ++ [rt k m])) := by
        unfold strs at *; simpa using hown4
      clear hown4 hgrow4 hown3 hb3' hb2' hb3 hb2 hown hb hz h1
      have HT4 := Lib.hid (HT.out _ hb4)
      go_wp2_with (first
        | ((with_reducible apply load_lit); (exact rfl); assumption)
        | (go_at_call 19; refine (C3.out _ HT4.out).mono ?_; rintro e w5 ⟨rfl, hb5⟩))
      go_roundw
      case rel => exact ⟨done ++ [rt k m], x2, rfl, HTI2, own_below hown5 hb5, hb4.trans (hb5.mono hb4.size), by have := hb5.size; omega, (hb5.block _ hz4).trans h4⟩
      case measure =>
        exact meas_lt x2 k m hk r1 HG.out
theorem Text (s : Nat) (hs : Small s) (w : World) (hT : Tabs w) : Calls Tryd.prog 21 #[.agg (ofF (wd s))] w fun e w' => e = .returned (.string (tx (textF s))) ∧ Below w.heap.size w w' :=
  text_core s _ (Lib.hid rfl) (Lib.hid hs) w (Lib.hid (fun _ hb => hT.below hb))
end Go.Proofs.YtabdhmfjbielaaaDoor
