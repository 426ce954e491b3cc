/- PROVED here: the contract of Covers. No condition but those in each theorem's own head. -/
import Derived.Test.YtefnbjkmmmdagaaS
namespace Go.Proofs.Ytefnbjkmmmdagaa
open Go Go.RowKit

theorem info46 : (Try.prog.info? 46).map (fun i => (i.zero, i.size, i.bytes)) = some (some (.agg #[.int .i64 0, .int .i64 0]), 2, 16) := by kernel_rfl
/-- is there nothing between two levels -/
def isC (u d : Nat → Nat) (a b : Nat) : Bool := (a != b) && (u a &&& d b == 2 ^ a ||| 2 ^ b)
def cvRow (u d : Nat → Nat) (a k : Nat) : List (Nat × Nat) := ((List.range k).filter (isC u d a)).map fun b => (a, b)
def cvTo (n : Nat) (u d : Nat → Nat) (k : Nat) : List (Nat × Nat) := (List.range k).flatMap fun a => cvRow u d a n
theorem cvRow_succ (u d : Nat → Nat) (a k : Nat) : cvRow u d a (k + 1) = cvRow u d a k ++ if isC u d a k = true then [(a, k)] else [] := by
  unfold cvRow
  rw [List.range_succ, List.filter_append, List.map_append]
  cases h : isC u d a k <;> simp [h]
theorem cvTo_succ (n : Nat) (u d : Nat → Nat) (k : Nat) : cvTo n u d (k + 1) = cvTo n u d k ++ cvRow u d k n := by
  unfold cvTo; rw [List.range_succ, List.flatMap_append]; simp
theorem cvRow_len (u d : Nat → Nat) (a : Nat) : ∀ k, (cvRow u d a k).length ≤ k
  | 0 => by simp [cvRow]
  | k + 1 => by have := cvRow_len u d a k; rw [cvRow_succ, List.length_append]; split <;> simp <;> omega
theorem cvTo_len (n : Nat) (u d : Nat → Nat) : ∀ k, (cvTo n u d k).length ≤ k * n
  | 0 => by simp [cvTo]
  | k + 1 => by have := cvTo_len n u d k; have h2 := cvRow_len u d k n; rw [cvTo_succ, List.length_append, Nat.add_mul]; omega
def fl (ps : List (Nat × Nat)) : List Value := ps.flatMap fun p => [.int .i64 (p.1 : Int), .int .i64 (p.2 : Int)]
theorem fl_len : ∀ ps : List (Nat × Nat), (fl ps).length = ps.length * 2
  | [] => rfl
  | p :: ps => by
    have e : fl (p :: ps) = .int .i64 (p.1 : Int) :: .int .i64 (p.2 : Int) :: fl ps := rfl
    rw [e, List.length_cons, List.length_cons, fl_len ps, List.length_cons]; omega
theorem fl_app (ps qs : List (Nat × Nat)) : fl (ps ++ qs) = fl ps ++ fl qs := by unfold fl; rw [List.flatMap_append]
theorem fl_get : ∀ (ps : List (Nat × Nat)) (j : Nat) (hj : j < ps.length), (fl ps)[j * 2]? = some (.int .i64 (ps[j].1 : Int)) ∧ (fl ps)[j * 2 + 1]? = some (.int .i64 (ps[j].2 : Int))
  | p :: ps, 0, _ => ⟨rfl, rfl⟩
  | p :: ps, j + 1, hj => by
    have ih := fl_get ps j (by simpa using hj)
    have e : fl (p :: ps) = .int .i64 (p.1 : Int) :: .int .i64 (p.2 : Int) :: fl ps := rfl
    rw [e, show (j + 1) * 2 = j * 2 + 1 + 1 by omega]
    exact ih
/-- a slice of pairs of numbers -/
def Nps (w : World) (A : Option Addr) (l : List (Nat × Nat)) : Prop :=
  0 < l.length → ∃ b off, A = some ⟨b, off, none⟩ ∧ b < w.heap.size ∧ ∀ j (hj : j < l.length), w.cell? ⟨b, off + j * 2, none⟩ = some (.int .i64 (l[j].1 : Int)) ∧ w.cell? ⟨b, off + j * 2 + 1, none⟩ = some (.int .i64 (l[j].2 : Int))
theorem Nps.below {w w' : World} {A : Option Addr} {l : List (Nat × Nat)} (h : Nps w A l) (hb : Below w.heap.size w w') : Nps w' A l := fun h0 => by
  obtain ⟨b, off, e, hl, hc⟩ := h h0
  exact ⟨b, off, e, Nat.lt_of_lt_of_le hl hb.size, fun j hj => ⟨(hb.cell (p := ⟨b, off + j * 2, none⟩) hl).trans (hc j hj).1, (hb.cell (p := ⟨b, off + j * 2 + 1, none⟩) hl).trans (hc j hj).2⟩⟩
theorem nps_own {w : World} {base : Nat} {v : Value} {l : List (Nat × Nat)} (h : w.ownsRow base 46 2 v l.length (fl l)) : ∃ A c, v = .slice A l.length c ∧ Nps w A l ∧ ∀ a, A = some a → base ≤ a.block := by
  rcases h.2 with ⟨rfl, e⟩ | ⟨g, cap, cur, rfl, hb, hg, hn, _, _, ht⟩
  · exact ⟨none, 0, by rw [e], fun h0 => by omega, fun a e => by cases e⟩
  · refine ⟨_, cap, rfl, fun h0 => ⟨g, 0, rfl, (Array.getElem?_eq_some_iff.1 hg).1, fun j hj => ?_⟩, fun a e => by injection e with e; subst e; exact hb⟩
    obtain ⟨h1, h2⟩ := fl_get l j hj
    rw [← ht, List.getElem?_take, if_pos (by omega)] at h1
    rw [← ht, List.getElem?_take, if_pos (by omega)] at h2
    rw [Nat.zero_add, cell_of_row w g (j * 2) cur 46 (0, 0) hg, cell_of_row w g (j * 2 + 1) cur 46 (0, 0) hg]
    exact ⟨by simpa using h1, by simpa using h2⟩
theorem own_heap {w w' : World} {base e size n : Nat} {v : Value} {xs : List Value} (h : w.ownsRow base e size v n xs) (hh : w'.heap = w.heap) : w'.ownsRow base e size v n xs := by
  unfold World.ownsRow at *; rw [hh]; exact h
theorem own0 {w : World} {base : Nat} {v : Value} {L : List (Nat × Nat)} {u d : Nat → Nat} {a : Nat} (h : w.ownsRow base 46 2 v L.length (fl L)) : w.ownsRow base 46 2 v (L ++ cvRow u d a 0).length (fl (L ++ cvRow u d a 0)) := by
  rw [show cvRow u d a 0 = [] from rfl, List.append_nil]; exact h
def CovPost (l : List (Nat × Nat)) (w : World) (e : Ending) (w' : World) : Prop := ∃ A c, e = .returned (.slice A l.length c) ∧ Nps w' A l ∧ Below w.heap.size w w' ∧ ∀ a, A = some a → w.heap.size ≤ a.block
set_option maxRecDepth 100000 in
set_option maxHeartbeats 8000000 in
theorem covers_any (g : Nat) (l : List ByteArray) (u d : Nat → Nat) (w : World) (hn : l.length ≤ 16) (fu : Fit l.length u) (fd : Fit l.length d) (hL : Lat w g l u d) :
    Calls Try.prog 30 #[.pointer (some ⟨g, 0, none⟩)] w (CovPost (cvTo l.length u d l.length) w) := by
  obtain ⟨i0, hi, hz0, hz1, hz2⟩ := info_parts info46
  obtain ⟨dn, f, hD, _⟩ := hL
  obtain ⟨A, c, hc0, _⟩ := hD.names
  obtain ⟨gu, hc1, hU⟩ := hD.up
  obtain ⟨gd, hc2, hV⟩ := hD.down
  have hg : g < w.heap.size := World.block_lt_of_cell? w _ hc0
  have H0 := Lib.hid hc0
  have H1 := Lib.hid hc1
  have H2 := Lib.hid hc2
  have HU := Lib.hid hU
  have HV := Lib.hid hV
  have FU := Lib.hid fu
  have FD := Lib.hid fd
  clear hD hc0 hc1 hc2 hU hV fu fd
  generalize hN : l.length = n at *
  clear hN
  have hcc := H0.out
  go_enter Try.func30, Try.ntmps30
  go_wp2_with fail
  clear hcc
  go_loopw [3, 11] (fun v i wr => ∃ a : Nat, a ≤ n ∧ i = .int .i64 (a : Int) ∧ wr.ownsRow w.heap.size 46 2 v (cvTo n u d a).length (fl (cvTo n u d a)) ∧ Below w.heap.size w wr) (fun _ i _ => n - (intOf i).toNat)
  case atStart => exact ⟨0, by omega, rfl, World.ownsRow_nil _ _ _ _, Below.refl _ _⟩
  case round =>
    obtain ⟨a, ha, rfl, hown, hb⟩ := hrel
    have hcc : wr.cell? ⟨g, 0, none⟩ = some (.slice A n c) := (hb.cell (p := ⟨g, 0, none⟩) hg).trans H0.out
    by_cases hlt : a < n
    · have hlz : (a : Int) < (n : Int) := by omega
      have hown0 := own0 (u := u) (d := d) (a := a) hown
      go_wp2_with fail
      go_loopw [3, 19] (fun v i ws => ∃ b : Nat, b ≤ n ∧ i = .int .i64 (b : Int) ∧ ws.ownsRow w.heap.size 46 2 v (cvTo n u d a ++ cvRow u d a b).length (fl (cvTo n u d a ++ cvRow u d a b)) ∧ Below w.heap.size w ws) (fun _ i _ => n - (intOf i).toNat)
      case atStart => exact ⟨0, by omega, rfl, hown0, hb⟩
      case round =>
        clear hown hown0 hb hcc
        obtain ⟨b, hbn, rfl, hown, hb⟩ := hrel
        by_cases hlb : b < n
        · have hlbz : (b : Int) < (n : Int) := by omega
          have c1 : wr.cell? ⟨g, 1, none⟩ = _ := (hb.cell (p := ⟨g, 1, none⟩) hg).trans H1.out
          have c2 : wr.cell? ⟨g, 2, none⟩ = _ := (hb.cell (p := ⟨g, 2, none⟩) hg).trans H2.out
          have ca := (HU.out.below hb HU.out.lt).cell hlt
          have cb := (HV.out.below hb HV.out.lt).cell hlb
          have hand := and_nat (u a) (d b) (FU.out.lt16 hn hlt) (FD.out.lt16 hn hlb)
          have hor := or_nat (2 ^ a) (2 ^ b) (pow_lt16 (by omega)) (pow_lt16 (by omega))
          have BA := Lib.hid (fun k => bit_any a (by omega) (wr.drewN k))
          have BB := Lib.hid (fun k => bit_any b (by omega) (wr.drewN k))
          have HR := Lib.hid (cvRow_succ u d a b)
          have HC := Lib.hid (show isC u d a b = ((a != b) && (u a &&& d b == 2 ^ a ||| 2 ^ b)) from rfl)
          have hlen := cvRow_len u d a b
          have hlen2 := cvTo_len n u d a
          have hlen3 : (cvTo n u d a ++ cvRow u d a b).length ≤ 4096 := by
            rw [List.length_append]
            have : a * n ≤ 16 * 16 := Nat.mul_le_mul (by omega) hn
            omega
          clear hlen hlen2
          generalize u a &&& d b = z1 at *
          generalize (2 ^ a ||| 2 ^ b : Nat) = z2 at *
          generalize (2 ^ a : Nat) = p1 at *
          generalize (2 ^ b : Nat) = p2 at *
          generalize u a = xa at *
          generalize d b = xb at *
          have skip : isC u d a b = false → cvRow u d a (b + 1) = cvRow u d a b := fun h => by rw [HR.out, h]; simp
          by_cases hab : a = b
          · have HS := Lib.hid (skip (by rw [HC.out, hab]; simp))
            have hq : ((a : Int) != (b : Int)) = false := by rw [hab]; simp
            clear hab skip
            go_wp2_with fail
            go_quiet (fail)
            go_wp2
            go_roundw
            case rel => exact ⟨b + 1, by omega, by go_num, by rw [HS.out]; exact hown, below_drewN hb _⟩
            case measure => simp [intOf]; omega
          · have hq : ((a : Int) != (b : Int)) = true := by rw [bne_iff_ne]; omega
            by_cases hz : z1 = z2
            · have HS := Lib.hid (show cvRow u d a (b + 1) = cvRow u d a b ++ [(a, b)] by rw [HR.out, HC.out, hz]; simp [hab])
              have hq2 : ((z1 : Int) == (z2 : Int)) = true := by rw [hz]; simp
              clear hab skip hz
              go_wp2_with fail
              go_quiet ((first | (go_at_call_of 36 (Value.int IntKind.i64 (a : Int)); exact quiet_left (BA.out _)) | (go_at_call_of 36 (Value.int IntKind.i64 (b : Int)); exact quiet_left (BB.out _))))
              go_upto_region 9 with fail
              have hown' : (wr.drewN nq).ownsRow _ _ _ _ _ _ := own_heap hown rfl
              have hb' : Below w.heap.size w (wr.drewN nq) := below_drewN hb _
              clear hown hb c1 c2 ca cb hand hor BA BB
              generalize wr.drewN nq = w2 at *
              go_wp2_with (first
                | (at_builtin; refine wpList_append_own _ rfl _ _ 41 rfl w.heap.size 46 i0 (.agg #[.int .i64 0, .int .i64 0]) 2 16 Try.underlying41 hi hz0 hz1 hz2 rfl (by decide) _ _ _ rfl (hown'.alloc _) ⟨w2.heap.size, 0, none⟩ 1 1 [.int .i64 (a : Int), .int .i64 (b : Int)] rfl rfl ?c1 ?c2 ?c3 ?c4 ?c5 ?_))
              case c1 =>
                intro j v hj
                match j, hj with
                | 0, hj => simp at hj; subst hj; simp [Addr.add]
                | 1, hj => simp at hj; subst hj; simp [Addr.add]
              case c2 => intro v hv; simp at hv; rcases hv with rfl | rfl <;> rfl
              case c3 => unfold maxLen; omega
              case c4 => omega
              case c5 => have := hb'.size; simp; omega
              intro v' w4 hown4 hgrow4 _
              have hb4 : Below w.heap.size w w4 := (hb'.alloc hb'.size _).grown hgrow4 (by have := hb'.size; simp; omega) (fun q hq => (hown'.lt q hq).1)
              have hown5 : w4.ownsRow w.heap.size 46 2 v' (cvTo n u d a ++ cvRow u d a (b + 1)).length (fl (cvTo n u d a ++ cvRow u d a (b + 1))) := by
                rw [HS.out, ← List.append_assoc, fl_app, List.length_append, List.length_append]; exact hown4
              clear hown4 hgrow4 hown' hb'
              go_wp2
              go_roundw
              case rel => exact ⟨b + 1, by omega, by go_num, hown5, hb4⟩
              case measure => simp [intOf]; omega
            · have HS := Lib.hid (skip (by rw [HC.out]; simp [hz]))
              have hq2 : ((z1 : Int) == (z2 : Int)) = false := by rw [beq_eq_false_iff_ne]; omega
              clear hab skip hz
              go_wp2_with fail
              go_quiet ((first | (go_at_call_of 36 (Value.int IntKind.i64 (a : Int)); exact quiet_left (BA.out _)) | (go_at_call_of 36 (Value.int IntKind.i64 (b : Int)); exact quiet_left (BB.out _))))
              go_wp2
              go_roundw
              case rel => exact ⟨b + 1, by omega, by go_num, by rw [HS.out]; exact hown, below_drewN hb _⟩
              case measure => simp [intOf]; omega
        · have hlbz : ¬ (b : Int) < (n : Int) := by omega
          obtain rfl : b = n := by omega
          go_wp2
          go_roundw
          case rel => exact ⟨a + 1, by omega, by go_num, by rw [cvTo_succ]; exact hown, hb⟩
          case measure => simp [intOf]; omega
    · have hlz : ¬ (a : Int) < (n : Int) := by omega
      obtain rfl : a = n := by omega
      obtain ⟨A', c', rfl, hN, hbs⟩ := nps_own hown
      go_wp2
      go_ret
      exact ⟨A', c', rfl, hN, hb, hbs⟩
end Go.Proofs.Ytefnbjkmmmdagaa
