/- PROVED here: Below, Join and Meet at what is no place; the contract of the document's Covers. No condition but those in each theorem's own head. -/
import Derived.Test.YtefnbjkmmmdagaaMp
namespace Go.Proofs.Ytefnbjkmmmdagaa
open Go Go.RowKit

set_option maxRecDepth 100000 in
set_option maxHeartbeats 1500000 in
theorem below_out (g : Nat) (l : List ByteArray) (u d : Nat → Nat) (a b : Int) (w : World) (h : hasB l.length a = false ∨ hasB l.length b = false) (hL : Lat w g l u d) :
    Calls Try.prog 14 #[.pointer (some ⟨g, 0, none⟩), .int .i64 a, .int .i64 b] w fun e w' => e = .returned (.bool false) ∧ ∃ k, w' = w.drewN k := by
  obtain ⟨dn, f, hD, _⟩ := hL
  obtain ⟨A, c, hc, _⟩ := hD.names
  have H1 := Lib.hid (fun x k => has_any g l.length A c x (w.drewN k) hc)
  clear hD
  cases ha : hasB l.length a with
  | false =>
    have HA := Lib.hid (fun k => H1.out a k)
    rw [ha] at HA
    clear ha h H1
    go_enter Try.func14, Try.ntmps14
    go_wp2_with fail
    go_quiet ((go_at_call 46; exact quiet_left (HA.out _)))
    go_wp2
    go_ret
    exact ⟨rfl, _, rfl⟩
  | true =>
    have hb : hasB l.length b = false := h.resolve_left (by rw [ha]; decide)
    have HA := Lib.hid (fun k => H1.out a k)
    have HB := Lib.hid (fun k => H1.out b k)
    rw [ha] at HA
    rw [hb] at HB
    clear h ha hb H1
    go_enter Try.func14, Try.ntmps14
    go_wp2_with fail
    go_quiet ((first | (go_at_call_of 46 (Value.int IntKind.i64 a); exact quiet_left (HA.out _)) | (go_at_call 46; exact quiet_left (HB.out _))))
    go_wp2
    go_ret
    exact ⟨rfl, _, rfl⟩
set_option maxRecDepth 100000 in
set_option maxHeartbeats 1500000 in
theorem join_out (g : Nat) (l : List ByteArray) (u d : Nat → Nat) (a b : Int) (w : World) (h : hasB l.length a = false ∨ hasB l.length b = false) (hL : Lat w g l u d) :
    Calls Try.prog 16 #[.pointer (some ⟨g, 0, none⟩), .int .i64 a, .int .i64 b] w fun e w' => e = .returned (.int .i64 (-1)) ∧ w = w' := by
  obtain ⟨dn, f, hD, _⟩ := hL
  obtain ⟨A, c, hc, _⟩ := hD.names
  have H1 := Lib.hid (fun x => has_any g l.length A c x w hc)
  clear hD
  generalize hasB l.length = hs at *
  cases ha : hs a with
  | false =>
    clear h
    go_enter Try.func16, Try.ntmps16
    go_wp2_with (go_at_call 46; refine (H1.out _).mono ?_; rintro e w1 ⟨rfl, rfl⟩)
    go_ret
    exact ⟨rfl, rfl⟩
  | true =>
    have hb : hs b = false := h.resolve_left (by rw [ha]; decide)
    clear h
    go_enter Try.func16, Try.ntmps16
    go_wp2_with (go_at_call 46; refine (H1.out _).mono ?_; rintro e w1 ⟨rfl, rfl⟩)
    go_ret
    exact ⟨rfl, rfl⟩
set_option maxRecDepth 100000 in
set_option maxHeartbeats 1500000 in
theorem meet_out (g : Nat) (l : List ByteArray) (u d : Nat → Nat) (a b : Int) (w : World) (h : hasB l.length a = false ∨ hasB l.length b = false) (hL : Lat w g l u d) :
    Calls Try.prog 18 #[.pointer (some ⟨g, 0, none⟩), .int .i64 a, .int .i64 b] w fun e w' => e = .returned (.int .i64 (-1)) ∧ w = w' := by
  obtain ⟨dn, f, hD, _⟩ := hL
  obtain ⟨A, c, hc, _⟩ := hD.names
  have H1 := Lib.hid (fun x => has_any g l.length A c x w hc)
  clear hD
  generalize hasB l.length = hs at *
  cases ha : hs a with
  | false =>
    clear h
    go_enter Try.func18, Try.ntmps18
    go_wp2_with (go_at_call 46; refine (H1.out _).mono ?_; rintro e w1 ⟨rfl, rfl⟩)
    go_ret
    exact ⟨rfl, rfl⟩
  | true =>
    have hb : hs b = false := h.resolve_left (by rw [ha]; decide)
    clear h
    go_enter Try.func18, Try.ntmps18
    go_wp2_with (go_at_call 46; refine (H1.out _).mono ?_; rintro e w1 ⟨rfl, rfl⟩)
    go_ret
    exact ⟨rfl, rfl⟩
/-- has the document nothing between two places -/
def okC (U : Nat → Nat → Bool) (a b e : Nat) : Bool := decide (e = a) || (decide (e = b) || (!U a e || !U e b))
def nxC (U : Nat → Nat → Bool) (a b k : Nat) : Bool := (decide (a ≠ b) && U a b) && (List.range k).all (okC U a b)
theorem nxC_succ (U : Nat → Nat → Bool) (a b k : Nat) : nxC U a b (k + 1) = (nxC U a b k && okC U a b k) := by
  unfold nxC; rw [List.range_succ, List.all_append]; simp [Bool.and_assoc]
theorem nxC_no {U : Nat → Nat → Bool} {a b k n : Nat} (h : nxC U a b k = false) (hk : k ≤ n) : nxC U a b n = false := by
  induction n with
  | zero => obtain rfl : k = 0 := by omega
            exact h
  | succ n ih =>
    by_cases e : k = n + 1
    · rw [← e]; exact h
    · rw [nxC_succ, ih (by omega)]; rfl
def cdRow (n : Nat) (U : Nat → Nat → Bool) (a k : Nat) : List (Nat × Nat) := ((List.range k).filter fun b => nxC U a b n).map fun b => (a, b)
def cdTo (n : Nat) (U : Nat → Nat → Bool) (k : Nat) : List (Nat × Nat) := (List.range k).flatMap fun a => cdRow n U a n
theorem cdRow_succ (n : Nat) (U : Nat → Nat → Bool) (a k : Nat) : cdRow n U a (k + 1) = cdRow n U a k ++ if nxC U a k n = true then [(a, k)] else [] := by
  unfold cdRow
  rw [List.range_succ, List.filter_append, List.map_append]
  cases h : nxC U a k n <;> simp [h]
theorem cdTo_succ (n : Nat) (U : Nat → Nat → Bool) (k : Nat) : cdTo n U (k + 1) = cdTo n U k ++ cdRow n U k n := by
  unfold cdTo; rw [List.range_succ, List.flatMap_append]; simp
theorem cdRow_len (n : Nat) (U : Nat → Nat → Bool) (a : Nat) : ∀ k, (cdRow n U a k).length ≤ k
  | 0 => by simp [cdRow]
  | k + 1 => by have := cdRow_len n U a k; rw [cdRow_succ, List.length_append]; split <;> simp <;> omega
theorem cdTo_len (n : Nat) (U : Nat → Nat → Bool) : ∀ k, (cdTo n U k).length ≤ k * n
  | 0 => by simp [cdTo]
  | k + 1 => by have := cdTo_len n U k; have h2 := cdRow_len n U k n; rw [cdTo_succ, List.length_append, Nat.add_mul]; omega
theorem isC_nx {n : Nat} {u d : Nat → Nat} {U : Nat → Nat → Bool} (h : Ord n u d) (hU : ∀ x y, x < n → y < n → U x y = (u x).testBit y) {a b : Nat} (ha : a < n) (hb : b < n) : isC u d a b = nxC U a b n := by
  unfold isC nxC
  by_cases e : a = b
  · simp [e]
  have e1 : (a != b) = true := by simpa using e
  rw [e1, decide_eq_true e, Bool.true_and, Bool.true_and, Bool.eq_iff_iff, beq_iff_eq, Bool.and_eq_true, List.all_eq_true]
  have hbit : ∀ c, (u a &&& d b).testBit c = ((u a).testBit c && (d b).testBit c) := fun c => Nat.testBit_and _ _ _
  have hp : ∀ c, (2 ^ a ||| 2 ^ b : Nat).testBit c = (decide (a = c) || decide (b = c)) := fun c => by rw [Nat.testBit_or, Nat.testBit_two_pow, Nat.testBit_two_pow]
  have hout : ∀ c, n ≤ c → (u a).testBit c = false := fun c hc => Bool.eq_false_iff.2 fun hh => by have := h.fitU a c ha hh; omega
  constructor
  · intro q
    have hq : ∀ c, ((u a).testBit c && (d b).testBit c) = (decide (a = c) || decide (b = c)) := fun c => by rw [← hbit, ← hp, q]
    refine ⟨?_, fun c hc => ?_⟩
    · rw [hU a b ha hb]
      have := hq b
      simp at this
      exact this.1
    · have hc' := List.mem_range.1 hc
      have := hq c
      rw [h.turn c b hc' hb] at this
      unfold okC
      rw [hU a c ha hc', hU c b hc' hb]
      by_cases c1 : c = a
      · simp [c1]
      · by_cases c2 : c = b
        · simp [c2]
        · rw [show decide (a = c) = false by simpa using fun h => c1 h.symm, show decide (b = c) = false by simpa using fun h => c2 h.symm] at this
          simp only [Bool.or_false] at this
          rw [← Bool.not_and, this]; simp
  · rintro ⟨q1, q2⟩
    rw [hU a b ha hb] at q1
    apply Nat.eq_of_testBit_eq
    intro c
    rw [hbit, hp]
    by_cases hc : c < n
    · have q3 := q2 c (List.mem_range.2 hc)
      unfold okC at q3
      rw [hU a c ha hc, hU c b hc hb] at q3
      rw [h.turn c b hc hb]
      by_cases c1 : c = a
      · subst c1
        rw [h.refl c ha, q1]; simp
      · by_cases c2 : c = b
        · subst c2
          rw [h.refl c hb, q1]; simp
        · rw [show decide (a = c) = false by simpa using fun h => c1 h.symm, show decide (b = c) = false by simpa using fun h => c2 h.symm]
          simp only [c1, c2, decide_false, Bool.false_or, Bool.or_false] at q3 ⊢
          rw [← Bool.not_and, Bool.not_eq_true'] at q3
          exact q3
    · rw [hout c (by omega)]
      rw [show decide (a = c) = false by simp; omega, show decide (b = c) = false by simp; omega]; rfl
theorem cov_same {n : Nat} {u d : Nat → Nat} {U : Nat → Nat → Bool} (h : Ord n u d) (hU : ∀ x y, x < n → y < n → U x y = (u x).testBit y) : cdTo n U n = cvTo n u d n := by
  have k1 : ∀ a, a < n → cdRow n U a n = cvRow u d a n := fun a ha => by
    unfold cdRow cvRow
    congr 1
    exact List.filter_congr fun b hb => (isC_nx h hU ha (List.mem_range.1 hb)).symm
  unfold cdTo cvTo
  rw [List.flatMap_def, List.flatMap_def]
  congr 1
  exact List.map_congr_left fun a ha => k1 a (List.mem_range.1 ha)
theorem pair_cells (w : World) (a b : Int) : ∀ (j : Nat) (u : Value), [Value.int .i64 a, .int .i64 b][j]? = some u → (w.alloc (.cells #[.int .i64 a, .int .i64 b] 46)).cell? ((⟨w.heap.size, 0, none⟩ : Addr).add j) = some u := fun j u hj => by
  match j, hj with
  | 0, hj => simp at hj; subst hj; simp [Addr.add]
  | 1, hj => simp at hj; subst hj; simp [Addr.add]
theorem pair_one (a b : Int) : ∀ u ∈ [Value.int .i64 a, .int .i64 b], u.oneCell' = true := fun u hu => by
  simp at hu; rcases hu with rfl | rfl <;> rfl
theorem own0d {w : World} {base : Nat} {v : Value} {L : List (Nat × Nat)} {n : Nat} {U : Nat → Nat → Bool} {a : Nat} (h : w.ownsRow base 46 2 v L.length (fl L)) : w.ownsRow base 46 2 v (L ++ cdRow n U a 0).length (fl (L ++ cdRow n U a 0)) := by
  rw [show cdRow n U a 0 = [] from rfl, List.append_nil]; exact h
set_option maxRecDepth 100000 in
set_option maxHeartbeats 1500000 in
theorem rcovers_any (g : Nat) (l : List ByteArray) (U : Nat → Nat → Bool) (w : World) (hl : l.length ≤ 16) (hL : RLat w g l U) :
    Calls Try.prog 31 #[.pointer (some ⟨g, 0, none⟩)] w (CovPost (cdTo l.length U l.length) w) := by
  obtain ⟨i0, hi, hz0, hz1, hz2⟩ := info_parts info46
  have HB := Lib.hid (fun (wr : World) (h : Below w.heap.size w wr) a b => rbelow_any g l U a b wr (hL.below h))
  obtain ⟨A, cA, _, _, _, h1, _, _, _, _⟩ := hL
  have hg : g < w.heap.size := World.block_lt_of_cell? w _ h1
  obtain ⟨n, hn⟩ : ∃ n, n = l.length := ⟨_, rfl⟩
  rw [← hn] at h1 hl HB ⊢
  have HBE := Lib.hid (fun (a b : Nat) (ha : a < n) (hb : b < n) => (show beB n U (a : Int) (b : Int) = U a b from by unfold beB; rw [decide_eq_true ⟨by omega, by omega, by omega, by omega⟩]; simp))
  clear hn
  have H1 := Lib.hid h1
  go_enter Try.func31, Try.ntmps31
  go_wp2_with fail
  clear h1
  go_loopw [3, 4] (fun v i wr => ∃ a : Nat, a ≤ n ∧ i = .int .i64 (a : Int) ∧ wr.ownsRow w.heap.size 46 2 v (cdTo n U a).length (fl (cdTo n U a)) ∧ Below w.heap.size w wr) (fun _ i _ => n - (intOf i).toNat)
  case atStart => exact ⟨0, by omega, rfl, World.ownsRow_nil _ _ _ _, Below.refl _ _⟩
  case round =>
    obtain ⟨a, ha, rfl, hown, hb⟩ := hrel
    have hcc : wr.cell? ⟨g, 0, none⟩ = some (.slice A n cA) := (hb.cell (p := ⟨g, 0, none⟩) hg).trans H1.out
    by_cases hlt : a < n
    · have hlz : (a : Int) < (n : Int) := by omega
      have hown0 := own0d (n := n) (U := U) (a := a) hown
      go_wp2_with fail
      go_loopw [3, 5] (fun v i ws => ∃ b : Nat, b ≤ n ∧ i = .int .i64 (b : Int) ∧ ws.ownsRow w.heap.size 46 2 v (cdTo n U a ++ cdRow n U a b).length (fl (cdTo n U a ++ cdRow n U a b)) ∧ Below w.heap.size w ws) (fun _ i _ => n - (intOf i).toNat)
      case atStart => exact ⟨0, by omega, rfl, hown0, hb⟩
      case round =>
        clear hown hown0 hb hcc
        obtain ⟨b, hbn, rfl, hown, hb⟩ := hrel
        have hcc : wr.cell? ⟨g, 0, none⟩ = some (.slice A n cA) := (hb.cell (p := ⟨g, 0, none⟩) hg).trans H1.out
        by_cases hlb : b < n
        · have hlbz : (b : Int) < (n : Int) := by omega
          have HC := Lib.hid (fun (x y : Nat) (hx : x < n) (hy : y < n) => by have h := HB.out wr hb (x : Int) (y : Int); rw [HBE.out x y hx hy] at h; exact h)
          have HG := Lib.hid (fun x y => HB.out wr hb x y)
          have HO := Lib.hid (And.intro hown hb)
          have HR := Lib.hid (cdRow_succ n U a b)
          have hlen3 : (cdTo n U a ++ cdRow n U a b).length ≤ 4096 := by
            have h1 := cdTo_len n U a
            have h2 := cdRow_len n U a b
            rw [List.length_append]
            have : a * n ≤ 16 * 16 := Nat.mul_le_mul (by omega) hl
            omega
          have HLEN := Lib.hid hlen3
          clear hown hb hlen3
          obtain ⟨x0, hx0⟩ : ∃ x0, x0 = nxC U a b 0 := ⟨_, rfl⟩
          have HX0 := Lib.hid hx0
          have hx0' : x0 = (decide (a ≠ b) && U a b) := by rw [hx0]; unfold nxC; simp
          have HCAB := Lib.hid (HC.out a b hlt hlb)
          by_cases hab : a = b
          · have HSTART := Lib.hid (show Value.bool false = .bool (nxC U a b 0) by rw [← HX0.out, hx0', hab]; simp)
            have hq : ((a : Int) != (b : Int)) = false := by rw [hab]; simp
            clear hab hx0 hx0'
            go_wp2
            go_loop [6, 7] (fun x c => ∃ e : Nat, e ≤ n ∧ c = .int .i64 (e : Int) ∧ x = .bool (nxC U a b e)) (fun _ c => n - (intOf c).toNat)
            case atStart => exact ⟨0, Nat.zero_le _, rfl, HSTART.out⟩
            case round =>
              obtain ⟨e, he, rfl, rfl⟩ := hrel
              cases hnx : nxC U a b e with
              | false =>
                have HS := Lib.hid (show cdRow n U a (b + 1) = cdRow n U a b by rw [HR.out, nxC_no hnx he]; simp)
                clear hnx
                by_cases hen : e < n
                · have henz : (e : Int) < (n : Int) := by omega
                  go_wp2
                  go_roundw
                  case rel => exact ⟨b + 1, by omega, by go_num, by rw [HS.out]; exact HO.out.1, HO.out.2⟩
                  case measure => simp [intOf]; omega
                · obtain rfl : n = e := by omega
                  have henz : ¬ (n : Int) < (n : Int) := by omega
                  go_wp2
                  go_roundw
                  case rel => exact ⟨b + 1, by omega, by go_num, by rw [HS.out]; exact HO.out.1, HO.out.2⟩
                  case measure => simp [intOf]; omega
              | true =>
                have HNX := Lib.hid hnx
                clear hnx
                by_cases hen : e < n
                · have henz : (e : Int) < (n : Int) := by omega
                  by_cases q1 : e = a
                  · have HN1 := Lib.hid (show nxC U a b (e + 1) = true by rw [nxC_succ, HNX.out, Bool.true_and]; unfold okC; simp [q1])
                    have k1 : ((e : Int) == (a : Int)) = true := by rw [q1]; simp
                    clear q1
                    go_wp2
                    go_round
                    case rel => exact ⟨e + 1, by omega, by go_num, by rw [HN1.out]⟩
                    case measure => simp [intOf]; omega
                  · have k1 : ((e : Int) == (a : Int)) = false := by rw [beq_eq_false_iff_ne]; omega
                    by_cases q2 : e = b
                    · have HN1 := Lib.hid (show nxC U a b (e + 1) = true by rw [nxC_succ, HNX.out, Bool.true_and]; unfold okC; simp [q2])
                      have k2 : ((e : Int) == (b : Int)) = true := by rw [q2]; simp
                      clear q1 q2
                      go_wp2
                      go_round
                      case rel => exact ⟨e + 1, by omega, by go_num, by rw [HN1.out]⟩
                      case measure => simp [intOf]; omega
                    · have k2 : ((e : Int) == (b : Int)) = false := by rw [beq_eq_false_iff_ne]; omega
                      have HN1 := Lib.hid (show nxC U a b (e + 1) = (!U a e || !U e b) by rw [nxC_succ, HNX.out, Bool.true_and]; unfold okC; simp [q1, q2])
                      clear q1 q2
                      have k3 := HBE.out a e hlt hen
                      have k4 := HBE.out e b hen hlb
                      generalize U a e = v1 at *
                      generalize U e b = v2 at *
                      cases v1 with
                      | false =>
                        clear k4
                        go_wp2_with (go_at_call 15; refine (HG.out _ _).mono ?_; rintro e' w' ⟨rfl, rfl⟩)
                        go_round
                        case rel => exact ⟨e + 1, by omega, by go_num, by rw [HN1.out]; rfl⟩
                        case measure => simp [intOf]; omega
                      | true =>
                        cases v2 with
                        | false =>
                          go_wp2_with (go_at_call 15; refine (HG.out _ _).mono ?_; rintro e' w' ⟨rfl, rfl⟩)
                          go_round
                          case rel => exact ⟨e + 1, by omega, by go_num, by rw [HN1.out]; rfl⟩
                          case measure => simp [intOf]; omega
                        | true =>
                          go_wp2_with (go_at_call 15; refine (HG.out _ _).mono ?_; rintro e' w' ⟨rfl, rfl⟩)
                          go_round
                          case rel => exact ⟨e + 1, by omega, by go_num, by rw [HN1.out]; rfl⟩
                          case measure => simp [intOf]; omega
                · obtain rfl : n = e := by omega
                  have henz : ¬ (n : Int) < (n : Int) := by omega
                  have HS := Lib.hid (show cdRow n U a (b + 1) = cdRow n U a b ++ [(a, b)] by rw [HR.out, HNX.out]; simp)
                  have hown' := HO.out.1
                  have hb' := HO.out.2
                  have HM1 := Lib.hid (show (cdTo n U a ++ cdRow n U a b).length + 1 ≤ maxLen by have := HLEN.out; unfold maxLen; omega)
                  have HM2 := Lib.hid (show ((cdTo n U a ++ cdRow n U a b).length + 1) * 16 ≤ 140737488355328 by have := HLEN.out; omega)
                  have HM3 := Lib.hid (show w.heap.size ≤ (wr.alloc (.cells #[.int .i64 (a : Int), .int .i64 (b : Int)] 46)).heap.size by have := hb'.size; rw [World.size_alloc]; omega)
                  go_wp2_with (first
                    | (at_builtin; refine wpList_append_own _ rfl _ _ 41 rfl w.heap.size 46 i0 (.agg #[.int .i64 0, .int .i64 0]) 2 16 Try.underlying41 hi hz0 hz1 hz2 rfl (by decide) _ _ _ rfl (hown'.alloc _) ⟨wr.heap.size, 0, none⟩ 1 1 [.int .i64 (a : Int), .int .i64 (b : Int)] rfl rfl (pair_cells wr (a : Int) (b : Int)) (pair_one (a : Int) (b : Int)) HM1.out HM2.out HM3.out ?_))
                  intro v' w4 hown4 hgrow4 _
                  have hb4 : Below w.heap.size w w4 := (hb'.alloc hb'.size _).grown hgrow4 (by have := hb'.size; simp; omega) (fun q hq => (hown'.lt q hq).1)
                  have hown5 : w4.ownsRow w.heap.size 46 2 v' (cdTo n U a ++ cdRow n U a (b + 1)).length (fl (cdTo n U a ++ cdRow n U a (b + 1))) := by
                    rw [HS.out, ← List.append_assoc, fl_app, List.length_append, List.length_append]; exact hown4
                  clear hown4 hgrow4 hown' hb'
                  go_wp2
                  go_roundw
                  case rel => exact ⟨b + 1, by omega, by go_num, hown5, hb4⟩
                  case measure => simp [intOf]; omega
          · have hq : ((a : Int) != (b : Int)) = true := by rw [bne_iff_ne]; omega
            obtain ⟨uv, huv⟩ : ∃ uv, uv = U a b := ⟨_, rfl⟩
            have HSTART := Lib.hid (show Value.bool uv = .bool (nxC U a b 0) by rw [← HX0.out, hx0', huv]; simp [hab])
            rw [← huv] at HCAB
            clear hab hx0 hx0' huv
            go_wp2_with (go_at_call 15; refine (HCAB.out).mono ?_; rintro e w' ⟨rfl, rfl⟩)
            go_loop [6, 7] (fun x c => ∃ e : Nat, e ≤ n ∧ c = .int .i64 (e : Int) ∧ x = .bool (nxC U a b e)) (fun _ c => n - (intOf c).toNat)
            case atStart => exact ⟨0, Nat.zero_le _, rfl, HSTART.out⟩
            case round =>
              obtain ⟨e, he, rfl, rfl⟩ := hrel
              cases hnx : nxC U a b e with
              | false =>
                have HS := Lib.hid (show cdRow n U a (b + 1) = cdRow n U a b by rw [HR.out, nxC_no hnx he]; simp)
                clear hnx
                by_cases hen : e < n
                · have henz : (e : Int) < (n : Int) := by omega
                  go_wp2
                  go_roundw
                  case rel => exact ⟨b + 1, by omega, by go_num, by rw [HS.out]; exact HO.out.1, HO.out.2⟩
                  case measure => simp [intOf]; omega
                · obtain rfl : n = e := by omega
                  have henz : ¬ (n : Int) < (n : Int) := by omega
                  go_wp2
                  go_roundw
                  case rel => exact ⟨b + 1, by omega, by go_num, by rw [HS.out]; exact HO.out.1, HO.out.2⟩
                  case measure => simp [intOf]; omega
              | true =>
                have HNX := Lib.hid hnx
                clear hnx
                by_cases hen : e < n
                · have henz : (e : Int) < (n : Int) := by omega
                  by_cases q1 : e = a
                  · have HN1 := Lib.hid (show nxC U a b (e + 1) = true by rw [nxC_succ, HNX.out, Bool.true_and]; unfold okC; simp [q1])
                    have k1 : ((e : Int) == (a : Int)) = true := by rw [q1]; simp
                    clear q1
                    go_wp2
                    go_round
                    case rel => exact ⟨e + 1, by omega, by go_num, by rw [HN1.out]⟩
                    case measure => simp [intOf]; omega
                  · have k1 : ((e : Int) == (a : Int)) = false := by rw [beq_eq_false_iff_ne]; omega
                    by_cases q2 : e = b
                    · have HN1 := Lib.hid (show nxC U a b (e + 1) = true by rw [nxC_succ, HNX.out, Bool.true_and]; unfold okC; simp [q2])
                      have k2 : ((e : Int) == (b : Int)) = true := by rw [q2]; simp
                      clear q1 q2
                      go_wp2
                      go_round
                      case rel => exact ⟨e + 1, by omega, by go_num, by rw [HN1.out]⟩
                      case measure => simp [intOf]; omega
                    · have k2 : ((e : Int) == (b : Int)) = false := by rw [beq_eq_false_iff_ne]; omega
                      have HN1 := Lib.hid (show nxC U a b (e + 1) = (!U a e || !U e b) by rw [nxC_succ, HNX.out, Bool.true_and]; unfold okC; simp [q1, q2])
                      clear q1 q2
                      have k3 := HBE.out a e hlt hen
                      have k4 := HBE.out e b hen hlb
                      generalize U a e = v1 at *
                      generalize U e b = v2 at *
                      cases v1 with
                      | false =>
                        clear k4
                        go_wp2_with (go_at_call 15; refine (HG.out _ _).mono ?_; rintro e' w' ⟨rfl, rfl⟩)
                        go_round
                        case rel => exact ⟨e + 1, by omega, by go_num, by rw [HN1.out]; rfl⟩
                        case measure => simp [intOf]; omega
                      | true =>
                        cases v2 with
                        | false =>
                          go_wp2_with (go_at_call 15; refine (HG.out _ _).mono ?_; rintro e' w' ⟨rfl, rfl⟩)
                          go_round
                          case rel => exact ⟨e + 1, by omega, by go_num, by rw [HN1.out]; rfl⟩
                          case measure => simp [intOf]; omega
                        | true =>
                          go_wp2_with (go_at_call 15; refine (HG.out _ _).mono ?_; rintro e' w' ⟨rfl, rfl⟩)
                          go_round
                          case rel => exact ⟨e + 1, by omega, by go_num, by rw [HN1.out]; rfl⟩
                          case measure => simp [intOf]; omega
                · obtain rfl : n = e := by omega
                  have henz : ¬ (n : Int) < (n : Int) := by omega
                  have HS := Lib.hid (show cdRow n U a (b + 1) = cdRow n U a b ++ [(a, b)] by rw [HR.out, HNX.out]; simp)
                  have hown' := HO.out.1
                  have hb' := HO.out.2
                  have HM1 := Lib.hid (show (cdTo n U a ++ cdRow n U a b).length + 1 ≤ maxLen by have := HLEN.out; unfold maxLen; omega)
                  have HM2 := Lib.hid (show ((cdTo n U a ++ cdRow n U a b).length + 1) * 16 ≤ 140737488355328 by have := HLEN.out; omega)
                  have HM3 := Lib.hid (show w.heap.size ≤ (wr.alloc (.cells #[.int .i64 (a : Int), .int .i64 (b : Int)] 46)).heap.size by have := hb'.size; rw [World.size_alloc]; omega)
                  go_wp2_with (first
                    | (at_builtin; refine wpList_append_own _ rfl _ _ 41 rfl w.heap.size 46 i0 (.agg #[.int .i64 0, .int .i64 0]) 2 16 Try.underlying41 hi hz0 hz1 hz2 rfl (by decide) _ _ _ rfl (hown'.alloc _) ⟨wr.heap.size, 0, none⟩ 1 1 [.int .i64 (a : Int), .int .i64 (b : Int)] rfl rfl (pair_cells wr (a : Int) (b : Int)) (pair_one (a : Int) (b : Int)) HM1.out HM2.out HM3.out ?_))
                  intro v' w4 hown4 hgrow4 _
                  have hb4 : Below w.heap.size w w4 := (hb'.alloc hb'.size _).grown hgrow4 (by have := hb'.size; simp; omega) (fun q hq => (hown'.lt q hq).1)
                  have hown5 : w4.ownsRow w.heap.size 46 2 v' (cdTo n U a ++ cdRow n U a (b + 1)).length (fl (cdTo n U a ++ cdRow n U a (b + 1))) := by
                    rw [HS.out, ← List.append_assoc, fl_app, List.length_append, List.length_append]; exact hown4
                  clear hown4 hgrow4 hown' hb'
                  go_wp2
                  go_roundw
                  case rel => exact ⟨b + 1, by omega, by go_num, hown5, hb4⟩
                  case measure => simp [intOf]; omega
        · have hlbz : ¬ (b : Int) < (n : Int) := by omega
          obtain rfl : n = b := by omega
          go_wp2
          go_roundw
          case rel => exact ⟨a + 1, by omega, by go_num, by rw [cdTo_succ]; exact hown, hb⟩
          case measure => simp [intOf]; omega
    · have hlz : ¬ (a : Int) < (n : Int) := by omega
      obtain rfl : n = a := by omega
      obtain ⟨A', c', rfl, hN, hbs⟩ := nps_own hown
      go_wp2
      go_ret
      exact ⟨A', c', rfl, hN, hb, hbs⟩
end Go.Proofs.Ytefnbjkmmmdagaa
