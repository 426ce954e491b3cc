/- PROVED here: what cutting joined tokens comes to, for this seat (ported). No condition but those in each theorem's own head. -/
import Derived.Test.YtdoeinjplgeadaaGreatDoorTkQ
import Derived.Test.YtdoeinjplgeadaaGreatDoorTkSj
import Derived.Lib.Join
namespace Go.Proofs.YtdoeinjplgeadaaGreatDoor.Tk
open Go Go.RowKit
open Go.Shelf

structure RTok where
  k : Int
  n : Int
  p : Int
  s : List UInt8
/-- a slice of any tokens -/
def RToks (w : World) (A : Option Addr) (ts : List RTok) : Prop :=
  0 < ts.length → ∃ b off, A = some ⟨b, off, none⟩ ∧ b < w.heap.size ∧ ∀ j (hj : j < ts.length), w.cell? ⟨b, off + j * 4, none⟩ = some (.int .i64 ts[j].k) ∧ w.cell? ⟨b, off + j * 4 + 1, none⟩ = some (.int .i64 ts[j].n) ∧
    w.cell? ⟨b, off + j * 4 + 2, none⟩ = some (.int .i64 ts[j].p) ∧ w.cell? ⟨b, off + j * 4 + 3, none⟩ = some (.string (bs ts[j].s))
theorem RToks.below {w w' : World} {A : Option Addr} {ts : List RTok} (h : RToks w A ts) (hb : Below w.heap.size w w') : RToks w' A ts := fun h0 => by
  obtain ⟨b, off, e, hl, hc⟩ := h h0
  refine ⟨b, off, e, Nat.lt_of_lt_of_le hl hb.size, fun j hj => ?_⟩
  obtain ⟨c0, c1, c2, c3⟩ := hc j hj
  exact ⟨(hb.cell (p := ⟨b, off + j * 4, none⟩) hl).trans c0, (hb.cell (p := ⟨b, off + j * 4 + 1, none⟩) hl).trans c1, (hb.cell (p := ⟨b, off + j * 4 + 2, none⟩) hl).trans c2, (hb.cell (p := ⟨b, off + j * 4 + 3, none⟩) hl).trans c3⟩
/-- the texts of the tokens that are no End -/
def rtx (ts : List RTok) : List (List UInt8) := (ts.filter fun t => t.k != 5).map fun t => t.s
def sv (l : List (List UInt8)) : List Value := l.map fun x => Value.string (bs x)
theorem rtx_snoc (ts : List RTok) (t : RTok) : rtx (ts ++ [t]) = rtx ts ++ if (t.k != 5) = true then [t.s] else [] := by
  unfold rtx
  rw [List.filter_append, List.map_append]
  cases h : t.k != 5 <;> simp [h]
theorem rtx_len (ts : List RTok) : (rtx ts).length ≤ ts.length := by
  unfold rtx; rw [List.length_map]; exact List.length_filter_le _ _
theorem info9 : (Tryz.prog.info? 9).map (fun i => (i.zero, i.size, i.bytes)) = some (some (.string ⟨#[]⟩), 1, 16) := by kernel_rfl
theorem join_call {w : World} {base : Nat} {v : Value} {l : List (List UInt8)} (h : w.ownsRow base 9 1 v l.length (sv l)) (hl : l.length ≤ 20001) (hj : (Lib.join l [32]).length ≤ 140737488355328) :
    Calls Tryz.prog 32 #[v, .string ⟨#[32]⟩] w fun e w' => e = .returned (.string (bs (Lib.join l [32]))) ∧ Below w.heap.size w w' := by
  by_cases h0 : l = []
  · subst h0
    rcases h.2 with ⟨rfl, _⟩ | ⟨g, cap, cur, rfl, _⟩
    · exact (Tryz.strings_Join_none none 0 _ w).mono fun _ _ ⟨he, hw⟩ => ⟨he, by rw [hw]; exact Below.refl _ _⟩
    · exact (Tryz.strings_Join_none (some ⟨g, 0, none⟩) cap _ w).mono fun _ _ ⟨he, hw⟩ => ⟨he, by rw [hw]; exact Below.refl _ _⟩
  · have hp : 0 < l.length := List.length_pos_iff.2 h0
    rcases h.2 with ⟨_, e⟩ | ⟨g, cap, cur, rfl, _, hg, hn, _, _, ht⟩
    · omega
    · have hlt : g < w.heap.size := (Array.getElem?_eq_some_iff.1 hg).1
      have e1 : (l.map bs).length = l.length := by simp
      have e2 : (l.map bs).map (·.data.toList) = l := by rw [List.map_map]; exact List.map_id'' (fun x => bs_list x) l
      have key := Tryz.strings_Join g 0 cap (l.map bs) ⟨#[32]⟩ w (fun j x hx => by
        rw [Nat.zero_add, cell_of_row w g j cur 9 (0, 0) hg]
        have hjl : j < l.length := by have := (List.getElem?_eq_some_iff.1 hx).1; simpa using this
        have h2 : (cur.toList.take (l.length * 1))[j]? = some (.string x) := by
          rw [ht]
          unfold sv
          rw [List.getElem?_map] at hx ⊢
          cases hq : l[j]? with
          | none => rw [hq] at hx; cases hx
          | some y => rw [hq] at hx; simp at hx; subst hx; rfl
        rw [List.getElem?_take, if_pos (by omega)] at h2
        simpa using h2) hlt (by rw [e1]; omega) (by rw [e1]; omega) (by rw [e2]; exact hj)
      rw [e1, e2] at key
      exact key
def JoinPost (l : List (List UInt8)) (w : World) (e : Ending) (w' : World) : Prop := e = .returned (.string (bs (Lib.join l [32]))) ∧ Below w.heap.size w w'
set_option maxRecDepth 100000 in
set_option maxHeartbeats 2000000 in
theorem join_any (A : Option Addr) (c : Nat) (ts : List RTok) (w : World) (hT : RToks w A ts) (hl : ts.length ≤ 20001) (hj : (Lib.join (rtx ts) [32]).length ≤ 140737488355328) : Calls Tryz.prog 14 #[.slice A ts.length c] w (JoinPost (rtx ts) w) := by
  obtain ⟨i0, hi, hz0, hz1, hz2⟩ := info_parts info9
  have HT := Lib.hid hT
  have HJ := Lib.hid hj
  clear hT hj
  obtain ⟨n, hn⟩ : ∃ n, n = ts.length := ⟨_, rfl⟩
  rw [← hn] at hl ⊢
  have HN := Lib.hid hn
  clear hn
  go_enter Tryz.func14, Tryz.ntmps14
  go_wp2_with (fail)
  go_loopw [3, 8] (fun v i wr => ∃ j : Nat, j ≤ n ∧ i = .int .i64 (j : Int) ∧ wr.ownsRow w.heap.size 9 1 v (rtx (ts.take j)).length (sv (rtx (ts.take j))) ∧ Below w.heap.size w wr) (fun _ i _ => n - (intOf i).toNat)
  case atStart => exact ⟨0, Nat.zero_le _, rfl, World.ownsRow_nil _ _ _ _, Below.refl _ _⟩
  case round =>
    obtain ⟨j, hj, rfl, hown, hb⟩ := hrel
    by_cases hlt : j < n
    · have hlz : (j : Int) < (n : Int) := by omega
      have hlt2 : j < ts.length := by rw [← HN.out]; exact hlt
      obtain ⟨b, off, rfl, hbl, hc⟩ := HT.out.below hb (by omega)
      obtain ⟨c0, c1, c2, c3⟩ := hc j hlt2
      have HS := Lib.hid (show rtx (ts.take (j + 1)) = _ by rw [List.take_succ_eq_append_getElem hlt2, rtx_snoc])
      have hlen := rtx_len (ts.take j)
      have hlen2 : (rtx (ts.take j)).length ≤ 20001 := by rw [List.length_take] at hlen; omega
      clear hc hlen
      generalize ts[j] = t at *
      obtain ⟨rs, hrs⟩ : ∃ rs, rs = rtx (ts.take j) := ⟨_, rfl⟩
      rw [← hrs] at hown hlen2
      have HRS := Lib.hid hrs
      clear hrs
      by_cases hk : t.k = 5
      · have hq : (t.k != 5) = false := by rw [hk]; rfl
        have HR := Lib.hid (show rtx (ts.take (j + 1)) = rs by rw [HS.out, hq, HRS.out]; simp)
        clear hk HS
        go_wp2
        go_roundw
        case rel => exact ⟨j + 1, by omega, by go_num, by rw [HR.out]; exact hown.alloc _, hb.alloc hb.size _⟩
        case measure => simp [intOf]; omega
      · have hq : (t.k != 5) = true := by simpa using hk
        have HR := Lib.hid (show rtx (ts.take (j + 1)) = rs ++ [t.s] by rw [HS.out, hq, HRS.out]; simp)
        clear hk HS
        go_wp2_with (first
          | (at_builtin; refine wpList_append_own _ rfl _ _ 43 rfl w.heap.size 9 i0 (.string ⟨#[]⟩) 1 16 Tryz.underlying43 hi hz0 hz1 hz2 rfl (by decide) _ _ _ rfl ((hown.alloc _).alloc _) ⟨wr.heap.size + 1, 0, none⟩ 1 1 [.string (bs t.s)] rfl rfl ?c1 ?c2 ?c3 ?c4 ?c5 ?_))
        case c1 =>
          intro j v hj
          match j, hj with
          | 0, hj => simp at hj; subst hj; simp [Addr.add]
        case c2 => intro v hv; simp at hv; subst hv; rfl
        case c3 => unfold maxLen; omega
        case c4 => omega
        case c5 => have := hb.size; simp; omega
        intro v' w4 hown4 hgrow4 _
        have hb4 : Below w.heap.size w w4 := ((hb.alloc hb.size _).alloc (by have := hb.size; simp; omega) _).grown hgrow4 (by have := hb.size; simp; omega) (fun q hq => (hown.lt q hq).1)
        have hown5 : w4.ownsRow w.heap.size 9 1 v' (rtx (ts.take (j + 1))).length (sv (rtx (ts.take (j + 1)))) := by
          rw [HR.out, List.length_append]; unfold sv at hown4 ⊢; rw [List.map_append]; exact hown4
        clear hown4 hgrow4 hown
        go_wp2
        go_roundw
        case rel => exact ⟨j + 1, by omega, by go_num, hown5, hb4⟩
        case measure => simp [intOf]; omega
    · have hlz : ¬ (j : Int) < (n : Int) := by omega
      have ht : ts.take j = ts := List.take_of_length_le (by rw [← HN.out]; omega)
      rw [ht] at hown
      have hlen := rtx_len ts
      have HC := Lib.hid (join_call hown (by have := HN.out; omega) HJ.out)
      clear hown ht hlen
      go_wp2_with (go_at_call 32; refine HC.out.mono ?_; rintro e w5 ⟨rfl, hb5⟩)
      go_ret
      exact ⟨rfl, bt hb hb5⟩
end Go.Proofs.YtdoeinjplgeadaaGreatDoor.Tk
