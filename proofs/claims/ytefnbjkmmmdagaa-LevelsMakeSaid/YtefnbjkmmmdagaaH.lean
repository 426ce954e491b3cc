/- PROVED here: the contract of New. No condition but those in each theorem's own head. -/
import Derived.Test.YtefnbjkmmmdagaaG
namespace Go.Proofs.Ytefnbjkmmmdagaa
open Go Go.RowKit

/-- the cells of a lattice -/
def latc (v1 v2 v3 : Value) (dn : Nat) (f : Nat → Int) : Array Value := #[v1, v2, v3, .int .u32 (dn : Int), .int .i32 0, .int .u32 0] ++ Array.ofFn (n := 512) fun i => .int .i64 (f i)
/-- a lattice that lies in a block -/
def LatD (w : World) (g : Nat) (l : List ByteArray) (u d : Nat → Nat) (dn : Nat) (f : Nat → Int) : Prop :=
  ∃ A c gu gd, w.heap[g]? = some (.cells (latc (.slice A l.length c) (.slice (some ⟨gu, 0, none⟩) l.length l.length) (.slice (some ⟨gd, 0, none⟩) l.length l.length) dn f) 73 (0, 0)) ∧ Strs w A l ∧ Mb w gu l.length u ∧ Mb w gd l.length d
/-- the tables of joins and meets -/
def Tab (n : Nat) (u d : Nat → Nat) (f : Nat → Int) : Prop := ∀ a b, a < n → b < n → f (16 * a + b) = bd n u a b ∧ f (256 + (16 * a + b)) = bd n d a b
def Lat (w : World) (g : Nat) (l : List ByteArray) (u d : Nat → Nat) : Prop := ∃ dn f, LatD w g l u d dn f ∧ (dn = 0 ∨ dn = 1 ∧ Tab l.length u d f)
def uOf (l : List ByteArray) (ps : List (ByteArray × ByteArray)) : Nat → Nat := cloK (relU l ps) l.length
def dOf (l : List ByteArray) (ps : List (ByteArray × ByteArray)) : Nat → Nat := cloK (relD l ps) l.length
/-- what is wrong with names and pairs -/
def newE (l : List ByteArray) (ps : List (ByteArray × ByteArray)) : Nat :=
  if errN l ≠ 0 then errN l else if ps.all (okP l) = false then 3 else if (antiB l.length (uOf l ps) && (bndB l.length (uOf l ps) && bndB l.length (dOf l ps))) = true then 0 else 9
def NewPost (l : List ByteArray) (ps : List (ByteArray × ByteArray)) (w : World) (e : Ending) (w' : World) : Prop :=
  (newE l ps ≠ 0 ∧ e = .returned (.tuple #[.pointer none, .int .i64 (newE l ps : Int)]) ∧ Below w.heap.size w w') ∨
  (newE l ps = 0 ∧ ∃ g, w.heap.size ≤ g ∧ e = .returned (.tuple #[.pointer (some ⟨g, 0, none⟩), .int .i64 0]) ∧ Below w.heap.size w w' ∧ Lat w' g l (uOf l ps) (dOf l ps))
theorem errN_zero {l : List ByteArray} (h : errN l = 0) : 0 < l.length ∧ l.length ≤ 16 ∧ l.all nameB = true ∧ dupB l = false := by
  unfold errN at h
  by_cases h1 : l.length = 0 ∨ 16 < l.length
  · rw [if_pos h1] at h; cases h
  · rw [if_neg h1] at h
    by_cases h2 : l.all nameB = false
    · rw [if_pos h2] at h; cases h
    · rw [if_neg h2] at h
      by_cases h3 : dupB l = true
      · rw [if_pos h3] at h; cases h
      · exact ⟨by omega, by omega, by simpa using h2, by simpa using h3⟩

theorem zc_eq (v1 v2 v3 : Value) : ((Try.zeroCells73.setIfInBounds 0 v1).setIfInBounds 1 v2).setIfInBounds 2 v3 = latc v1 v2 v3 0 (fun _ => 0) := by kernel_rfl
theorem lat_new (w7 : World) (l : List ByteArray) (u d : Nat → Nat) (A7 : Option Addr) (c7 gu gd : Nat) (h1 : Strs w7 A7 l) (h2 : Mb w7 gu l.length u) (h3 : Mb w7 gd l.length d) :
    Lat (w7.alloc (.cells (latc (.slice A7 l.length c7) (.slice (some ⟨gu, 0, none⟩) l.length l.length) (.slice (some ⟨gd, 0, none⟩) l.length l.length) 0 (fun _ => 0)) 73)) w7.heap.size l u d :=
  ⟨0, fun _ => 0, ⟨A7, c7, gu, gd, heap_alloc_new w7 _, h1.below (heap1 w7 _), h2.below (heap1 w7 _) h2.lt, h3.below (heap1 w7 _) h3.lt⟩, .inl rfl⟩
theorem flip_ {P : Program} {f : FuncId} {args : Array Value} {w : World} {v : Value} (h : Calls P f args w fun e w' => e = .returned v ∧ w = w') : Calls P f args w fun e w'' => e = .returned v ∧ w'' = w :=
  h.mono fun _ _ ⟨he, hm⟩ => ⟨he, hm.symm⟩
theorem mb_add {w : World} {g n a b z p : Nat} {m : Nat → Nat} (h : Mb w g n m) (hz : m a = z) (hp : 2 ^ b = p) : Mb (w.setCell ⟨g, a, none⟩ (.int .u32 ((z ||| p : Nat) : Int))) g n (addP a b m) :=
  (h.set_ a _).congr (fun i _ => by unfold addP; rw [hz, hp])
set_option maxRecDepth 100000 in
set_option maxHeartbeats 8000000 in
theorem new_any (A : Option Addr) (c : Nat) (l : List ByteArray) (B : Option Addr) (d : Nat) (ps : List (ByteArray × ByteArray)) (w : World) (hl : l.length ≤ maxLen) (hc : l.length ≤ c) (hs : ∀ s ∈ l, s.size ≤ maxLen) (hA : Strs w A l) (hps : ps.length ≤ maxLen) (hB : Prs w B ps) :
    Calls Try.prog 10 #[.slice A l.length c, .slice B ps.length d] w (NewPost l ps w) := by
  have HC := Lib.hid (fun w h => check_any A c l w hl hc hs h)
  have HA := Lib.hid hA
  have HB := Lib.hid hB
  clear hA hB hs hl hc
  by_cases he : errN l = 0
  · obtain ⟨h0, h16, -, -⟩ := errN_zero he
    rw [he] at HC
    have HE := Lib.hid he
    clear he
    unfold maxLen at hps
    have HSV := Lib.hid (fun w => selves_any l.length h16 w)
    go_enter Try.func10, Try.ntmps10
    go_upto_region 6 with (first
      | (go_at_call 33; refine (HC.out _ HA.out).mono ?_; rintro e w' ⟨rfl, rfl⟩)
      | (go_at_call 34; first
          | ((with_reducible refine (HSV.out w).mono ?_); rintro e w1 ⟨rfl, hb1, hm1⟩)
          | ((with_reducible refine (HSV.out w1).mono ?_); rintro e w2 ⟨rfl, hb2, hm2⟩)))
    have hB0 : Below w.heap.size w w2 := bt hb1 hb2
    have hm7 : Mb w2 w.heap.size l.length (relU l (ps.take 0)) := hm1.below hb2 hm1.lt
    have hm8 : Mb w2 w1.heap.size l.length (relD l (ps.take 0)) := hm2
    have hg8 : w.heap.size < w1.heap.size := hm1.lt
    generalize w1.heap.size = g8 at *
    clear hb1 hb2 hm1 hm2 HSV HC
    go_wp2_with fail
    go_loopw [26] (fun i wr => ∃ k : Nat, k ≤ ps.length ∧ i = .int .i64 (k : Int) ∧ Hid (∀ p ∈ ps.take k, okP l p = true) ∧ Below w.heap.size w wr ∧ Mb wr w.heap.size l.length (relU l (ps.take k)) ∧ Mb wr g8 l.length (relD l (ps.take k))) (fun i _ => ps.length - (intOf i).toNat)
    case atStart => exact ⟨0, by omega, rfl, Lib.hid (fun p hp => by simp at hp), hB0, hm7, hm8⟩
    case round =>
      clear hB0 hm7 hm8
      obtain ⟨k, hk, rfl, HO, hb, hm7, hm8⟩ := hrel
      by_cases hlt : k < ps.length
      · have hlz : (k : Int) < (ps.length : Int) := by omega
        obtain ⟨b, off, rfl, hbl, hcell⟩ := HB.out (by omega)
        obtain ⟨hc1, hc2⟩ := hcell k hlt
        have hc1' := (hb.cell (p := ⟨b, off + k * 2, none⟩) hbl).trans hc1
        have hc2' := (hb.cell (p := ⟨b, off + k * 2 + 1, none⟩) hbl).trans hc2
        clear hcell hc1 hc2
        have HI1 := Lib.hid (fun w h => index_str A c l ps[k].1 w (by omega) h)
        have HI2 := Lib.hid (fun w h => index_str A c l ps[k].2 w (by omega) h)
        have HU := Lib.hid (relU_take l ps k hlt)
        have HD := Lib.hid (relD_take l ps k hlt)
        have HP := Lib.hid (show okP l ps[k] = (decide (0 ≤ idxO l ps[k].1) && decide (0 ≤ idxO l ps[k].2)) from rfl)
        have HX1 := Lib.hid (idxO_lt l ps[k].1)
        have HX2 := Lib.hid (idxO_lt l ps[k].2)
        generalize idxO l ps[k].1 = x1 at *
        generalize idxO l ps[k].2 = x2 at *
        generalize ps[k].1 = s1 at *
        generalize ps[k].2 = s2 at *
        go_upto_region 9 with fail
        refine gen_world (fun w3 => Below w.heap.size w w3 ∧ Mb w3 w.heap.size l.length (relU l (ps.take k)) ∧ Mb w3 g8 l.length (relD l (ps.take k)) ∧ w3.cell? ⟨wr.heap.size, 0, none⟩ = some (.string s1) ∧ w3.cell? ⟨wr.heap.size, 1, none⟩ = some (.string s2)) ⟨hb.alloc hb.size _, hm7.below (heap1 wr _) hm7.lt, hm8.below (heap1 wr _) hm8.lt, by simp, by simp⟩ ?_
        rintro w3 ⟨hb3, hm73, hm83, c1, c2⟩
        generalize wr.heap.size = gp at *
        clear hb hm7 hm8 hc1' hc2'
        have HS3 := Lib.hid (HA.out.below hb3)
        go_quiet ((first | (go_at_call_of 35 (Value.string s1); exact quiet_left (HI1.out _ HS3.out)) | (go_at_call_of 35 (Value.string s2); exact quiet_left (HI2.out _ HS3.out))))
        go_upto_region 10 with fail
        refine gen_world (fun w4 => Below w.heap.size w w4 ∧ Mb w4 w.heap.size l.length (relU l (ps.take k)) ∧ Mb w4 g8 l.length (relD l (ps.take k))) ⟨below_drewN hb3 _, hm73, hm83⟩ ?_
        rintro w4 ⟨hb4, hm74, hm84⟩
        clear hb3 hm73 hm83 c1 c2 HS3 HI1 HI2
        by_cases hx : 0 ≤ x1 ∧ 0 ≤ x2
        · obtain ⟨h1, h2⟩ := hx
          have l1 := HX1.out h1
          have l2 := HX2.out h2
          obtain ⟨i1, rfl⟩ : ∃ i : Nat, x1 = i := ⟨x1.toNat, by omega⟩
          obtain ⟨i2, rfl⟩ : ∃ i : Nat, x2 = i := ⟨x2.toNat, by omega⟩
          have HU2 := Lib.hid (show relU l (ps.take (k + 1)) = addP i1 i2 (relU l (ps.take k)) from HU.out)
          have HD2 := Lib.hid (show relD l (ps.take (k + 1)) = addP i2 i1 (relD l (ps.take k)) from HD.out)
          have HO2 := Lib.hid (show ∀ p ∈ ps.take (k + 1), okP l p = true by
            rw [List.take_succ_eq_append_getElem hlt]
            intro p hp
            rcases List.mem_append.1 hp with hp | hp
            · exact HO.out p hp
            · simp at hp; subst hp; rw [HP.out]; simp)
          have hR := rel_ok l (ps.take k) HO.out
          simp only [Int.toNat_natCast] at l1 l2
          have hz1 : (i1 : Int) < (l.length : Int) := by omega
          have hz2 : (i2 : Int) < (l.length : Int) := by omega
          have e1 := hm74.cell l1
          have q1 := hm74.frozen i1
          have e2 := hm84.cell l2
          have q2 := hm84.frozen i2
          have y1 := hR.1.lt16 h16 l1
          have y2 := hR.2.1.lt16 h16 l2
          have O1 := Lib.hid (or_nat _ _ y1 (pow_lt16 (k := i2) (by omega)))
          have O2 := Lib.hid (or_nat _ _ y2 (pow_lt16 (k := i1) (by omega)))
          have B1 := Lib.hid (fun w => bit_any i1 (by omega) w)
          have B2 := Lib.hid (fun w => bit_any i2 (by omega) w)
          clear HU HD HP HX1 HX2 hR h1 h2 HO y1 y2
          generalize hM7 : relU l (ps.take k) = M7 at *
          generalize hM8 : relD l (ps.take k) = M8 at *
          clear hM7 hM8
          generalize hm7x : M7 i1 = z1 at *
          generalize hm8x : M8 i2 = z2 at *
          have Z1 := Lib.hid hm7x
          have Z2 := Lib.hid hm8x
          clear hm7x hm8x
          generalize hp1 : (2 ^ i1 : Nat) = p1 at *
          generalize hp2 : (2 ^ i2 : Nat) = p2 at *
          have P1 := Lib.hid hp1
          have P2 := Lib.hid hp2
          clear hp1 hp2
          go_upto_region 12 with fail
          refine wp_region_still_tail 8 (by kernel_rfl) (by kernel_rfl) ?_
          simp only [List.take_succ_cons, List.take_zero, List.drop_succ_cons, List.drop_zero]
          repeat (first | still_call (flip_ (B2.out _)) | still_step)
          refine wpStill_nil ?_
          have hb5 : Below w.heap.size w w4.drew := ⟨hb4.os, hb4.tape, hb4.output, hb4.size, hb4.block⟩
          have hm75 : Mb w4.drew w.heap.size l.length M7 := hm74
          have hm85 : Mb w4.drew g8 l.length M8 := hm84
          have e1' : w4.drew.cell? _ = _ := e1
          have q1' : w4.drew.frozen? _ = _ := q1
          clear hb4 hm74 hm84 e1 q1 e2 q2
          change wpList _ _ _ _ _ w4.drew
          generalize w4.drew = w5 at *
          go_upto_region 13 with fail
          refine gen_world (fun w6 => Below w.heap.size w w6 ∧ Mb w6 w.heap.size l.length (addP i1 i2 M7) ∧ Mb w6 g8 l.length M8) ⟨hb5.setCell (by simp) _, by rw [O1.out]; exact mb_add hm75 Z1.out P2.out, hm85.far (by show g8 ≠ w.heap.size; omega) _⟩ ?_
          rintro w6 ⟨hb6, hm76, hm86⟩
          clear hb5 hm75 hm85 e1' q1'
          have e2 := hm86.cell l2
          have q2 := hm86.frozen i2
          rw [Z2.out] at e2
          refine wp_region_still_tail 8 (by kernel_rfl) (by kernel_rfl) ?_
          simp only [List.take_succ_cons, List.take_zero, List.drop_succ_cons, List.drop_zero]
          repeat (first | still_call (flip_ (B1.out _)) | still_step)
          refine wpStill_nil ?_
          have hb7 : Below w.heap.size w w6.drew := ⟨hb6.os, hb6.tape, hb6.output, hb6.size, hb6.block⟩
          have hm77 : Mb w6.drew w.heap.size l.length (addP i1 i2 M7) := hm76
          have hm87 : Mb w6.drew g8 l.length M8 := hm86
          have e2' : w6.drew.cell? _ = _ := e2
          have q2' : w6.drew.frozen? _ = _ := q2
          clear hb6 hm76 hm86 e2 q2
          change wpList _ _ _ _ _ w6.drew
          generalize w6.drew = w7 at *
          go_upto_region 14 with fail
          refine gen_world (fun w8 => Below w.heap.size w w8 ∧ Mb w8 w.heap.size l.length (addP i1 i2 M7) ∧ Mb w8 g8 l.length (addP i2 i1 M8)) ⟨hb7.setCell (by show w.heap.size ≤ g8; omega) _, hm77.far (by show w.heap.size ≠ g8; omega) _, by rw [O2.out]; exact mb_add hm87 Z2.out P1.out⟩ ?_
          rintro w8 ⟨hb8, hm78, hm88⟩
          clear hb7 hm77 hm87 e2' q2'
          go_wp2
          go_roundw
          case rel => exact ⟨k + 1, by omega, by go_num, HO2, hb8, by rw [HU2.out]; exact hm78, by rw [HD2.out]; exact hm88⟩
          case measure => simp [intOf]; omega
        · have hbad : newE l ps = 3 := by
            unfold newE
            rw [if_neg (by rw [HE.out]; decide), if_pos]
            rw [List.all_eq_false]
            refine ⟨ps[k], List.getElem_mem hlt, ?_⟩
            rw [HP.out]; simp; omega
          have HBad := Lib.hid hbad
          clear hbad
          by_cases h1 : x1 < 0
          · go_wp2
            go_ret2
            exact .inl ⟨by rw [HBad.out]; decide, by rw [HBad.out]; rfl, hb4⟩
          · have h2 : x2 < 0 := by omega
            go_wp2
            go_ret2
            exact .inl ⟨by rw [HBad.out]; decide, by rw [HBad.out]; rfl, hb4⟩
      · have hlz : ¬ (k : Int) < (ps.length : Int) := by omega
        have HO1 := HO.out
        rw [List.take_of_length_le (by omega)] at hm7 hm8 HO1
        have hR := rel_ok l ps HO1
        have HCU := Lib.hid (fun w' h => close_any w.heap.size l.length (relU l ps) h16 hR.1 w' h)
        have HCD := Lib.hid (fun w' h => close_any g8 l.length (relD l ps) h16 hR.2.1 w' h)
        have HNE := Lib.hid (show newE l ps = if (antiB l.length (uOf l ps) && (bndB l.length (uOf l ps) && bndB l.length (dOf l ps))) = true then 0 else 9 by
          unfold newE
          rw [if_neg (by rw [HE.out]; decide), if_neg (by rw [Bool.not_eq_false, List.all_eq_true]; exact HO1)])
        have FU : Fit l.length (uOf l ps) := hR.1.clo _ (Nat.le_refl _)
        have FD : Fit l.length (dOf l ps) := hR.2.1.clo _ (Nat.le_refl _)
        clear HO HO1 hR
        go_upto_region 17 with (go_at_call 37; first
          | ((with_reducible refine (HCU.out _ hm7).mono ?_); rintro e w3 ⟨rfl, hm73, hg3⟩; have hm83 := hm8.grown hg3 (by intro e; injection e with e; omega))
          | ((with_reducible refine (HCD.out _ hm83).mono ?_); rintro e w4 ⟨rfl, hm84, hg4⟩))
        have hm74 := hm73.grown hg4 (by intro e; injection e with e; omega)
        have hb3 : Below w.heap.size w w3 := hb.grown hg3 hb.size (fun q hq => by injection hq with hq; omega)
        have hb4 : Below w.heap.size w w4 := hb3.grown hg4 hb3.size (fun q hq => by injection hq with hq; omega)
        refine gen_world (fun w5 => Below w.heap.size w w5 ∧ Mb w5 w.heap.size l.length (uOf l ps) ∧ Mb w5 g8 l.length (dOf l ps)) ⟨hb4, hm74, hm84⟩ ?_
        rintro w5 ⟨hb5, hU, hD⟩
        clear hb hm7 hm8 hm73 hg3 hm83 hm84 hg4 hm74 hb3 hb4 HCU HCD
        have HAN := Lib.hid (fun r (e : antiB l.length (uOf l ps) = r) w' h => anti_core w.heap.size l.length (uOf l ps) r (Lib.hid e) h16 w' h)
        have HHU := Lib.hid (fun r (e : bndB l.length (uOf l ps) = r) w' h => has_core w.heap.size l.length (uOf l ps) r (Lib.hid e) h16 FU w' h)
        have HHD := Lib.hid (fun r (e : bndB l.length (dOf l ps) = r) w' h => has_core g8 l.length (dOf l ps) r (Lib.hid e) h16 FD w' h)
        clear FU FD
        generalize antiB l.length (uOf l ps) = ba at *
        generalize bndB l.length (uOf l ps) = bu at *
        generalize bndB l.length (dOf l ps) = bv at *
        cases ba with
        | false =>
          have HN := Lib.hid (HNE.out.trans (if_neg (by simp)))
          clear HNE
          go_wp2_with (go_at_call 38; refine (HAN.out _ rfl _ hU).mono ?_; rintro e w' ⟨rfl, rfl⟩)
          go_ret2
          exact .inl ⟨by rw [HN.out]; decide, by rw [HN.out]; rfl, hb5⟩
        | true =>
          cases bu with
          | false =>
            have HN := Lib.hid (HNE.out.trans (if_neg (by simp)))
            clear HNE
            go_wp2_with (first
              | (go_at_call 38; refine (HAN.out _ rfl _ hU).mono ?_; rintro e w' ⟨rfl, rfl⟩)
              | (go_at_call 39; refine (HHU.out _ rfl _ hU).mono ?_; rintro e w' ⟨rfl, q1, rfl⟩))
            go_ret2
            exact .inl ⟨by rw [HN.out]; decide, by rw [HN.out]; rfl, below_drewN hb5 _⟩
          | true =>
            cases bv with
            | false =>
              have HN := Lib.hid (HNE.out.trans (if_neg (by decide)))
              clear HNE
              go_wp2_with (first
                | (go_at_call 38; refine (HAN.out _ rfl _ hU).mono ?_; rintro e w' ⟨rfl, rfl⟩)
                | (go_at_call 39; first
                    | ((with_reducible refine (HHU.out _ rfl w5 hU).mono ?_); rintro e w' ⟨rfl, q1, rfl⟩)
                    | ((with_reducible refine (HHD.out _ rfl _ (hD.drewN q1)).mono ?_); rintro e w' ⟨rfl, q2, rfl⟩)))
              go_ret2
              exact .inl ⟨by rw [HN.out]; decide, by rw [HN.out]; rfl, below_drewN hb5 _⟩
            | true =>
              have HN := Lib.hid (HNE.out.trans (if_pos rfl))
              clear HNE
              go_upto_region 19 with (first
                | (go_at_call 38; refine (HAN.out _ rfl _ hU).mono ?_; rintro e w' ⟨rfl, rfl⟩)
                | (go_at_call 39; first
                    | ((with_reducible refine (HHU.out _ rfl w5 hU).mono ?_); rintro e w' ⟨rfl, q1, rfl⟩)
                    | ((with_reducible refine (HHD.out _ rfl _ (hD.drewN q1)).mono ?_); rintro e w' ⟨rfl, q2, rfl⟩)))
              refine gen_world (fun w6 => Below w.heap.size w w6 ∧ Mb w6 w.heap.size l.length (uOf l ps) ∧ Mb w6 g8 l.length (dOf l ps)) ⟨below_drewN hb5 _, hU, hD⟩ ?_
              rintro w6 ⟨hb6, hU6, hD6⟩
              clear hb5 hU hD HAN HHU HHD
              have HCL := Lib.hid (fun w' h => clone_any A c l w' h0 h16 h)
              go_wp2_with (go_at_call 40; refine (HCL.out _ (HA.out.below hb6)).mono ?_; rintro e w7 ⟨A7, c7, rfl, hS7, hb7⟩)
              have hL := lat_new w7 l (uOf l ps) (dOf l ps) A7 c7 w.heap.size g8 hS7 (hU6.below hb7 hU6.lt) (hD6.below hb7 hD6.lt)
              have hB : Below w.heap.size w (w7.alloc (.cells (latc (.slice A7 l.length c7) (.slice (some ⟨w.heap.size, 0, none⟩) l.length l.length) (.slice (some ⟨g8, 0, none⟩) l.length l.length) 0 (fun _ => 0)) 73)) := bt hb6 (bt hb7 (heap1 w7 _))
              have hsz : w.heap.size ≤ w7.heap.size := Nat.le_trans hb6.size hb7.size
              rw [← zc_eq] at hL hB
              generalize ((Try.zeroCells73.setIfInBounds 0 (.slice A7 l.length c7)).setIfInBounds 1 (.slice (some ⟨w.heap.size, 0, none⟩) l.length l.length)).setIfInBounds 2 (.slice (some ⟨g8, 0, none⟩) l.length l.length) = cs at *
              go_ret2
              exact .inr ⟨HN.out, w7.heap.size, hsz, rfl, hB, hL⟩
  · have HB2 := Lib.hid (show newE l ps = errN l by unfold newE; rw [if_pos he])
    have hz : ((errN l : Int) != 0) = true := by rw [bne_iff_ne]; omega
    have HE := Lib.hid he
    clear he
    generalize errN l = r at *
    go_enter Try.func10, Try.ntmps10
    go_wp2_with (go_at_call 33; refine (HC.out _ HA.out).mono ?_; rintro e w' ⟨rfl, rfl⟩)
    go_ret2
    exact .inl ⟨by rw [HB2.out]; exact HE.out, by rw [HB2.out]; rfl, Below.refl _ _⟩
end Go.Proofs.Ytefnbjkmmmdagaa
