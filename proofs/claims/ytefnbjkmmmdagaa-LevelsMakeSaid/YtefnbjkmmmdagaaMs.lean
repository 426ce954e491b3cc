/- PROVED here: the law LevelsMake returns true at any names, pairs, text and numbers. No condition but those in each theorem's own head. -/
import Derived.Test.YtefnbjkmmmdagaaMr
import Derived.Test.YtefnbjkmmmdagaaMc
import Derived.Test.YtefnbjkmmmdagaaT
namespace Go.Proofs.Ytefnbjkmmmdagaa
open Go Go.RowKit

theorem own15 : Own 15 := ⟨_, Try.func15, by kernel_rfl, by kernel_rfl⟩
theorem own17 : Own 17 := ⟨_, Try.func17, by kernel_rfl, by kernel_rfl⟩
theorem own19 : Own 19 := ⟨_, Try.func19, by kernel_rfl, by kernel_rfl⟩
theorem own20 : Own 20 := ⟨_, Try.func20, by kernel_rfl, by kernel_rfl⟩
theorem own21 : Own 21 := ⟨_, Try.func21, by kernel_rfl, by kernel_rfl⟩
theorem own22 : Own 22 := ⟨_, Try.func22, by kernel_rfl, by kernel_rfl⟩
theorem own23 : Own 23 := ⟨_, Try.func23, by kernel_rfl, by kernel_rfl⟩
theorem own24 : Own 24 := ⟨_, Try.func24, by kernel_rfl, by kernel_rfl⟩
theorem own26 : Own 26 := ⟨_, Try.func26, by kernel_rfl, by kernel_rfl⟩
theorem own28 : Own 28 := ⟨_, Try.func28, by kernel_rfl, by kernel_rfl⟩
theorem own29 : Own 29 := ⟨_, Try.func29, by kernel_rfl, by kernel_rfl⟩
theorem own30 : Own 30 := ⟨_, Try.func30, by kernel_rfl, by kernel_rfl⟩
theorem own31 : Own 31 := ⟨_, Try.func31, by kernel_rfl, by kernel_rfl⟩
theorem neq26n (w : World) : (binOp .neq 26 (.pointer none) (.pointer none)).run Try.prog w = .ok (.bool false) w := by kernel_rfl
theorem neq26s (a : Addr) (w : World) : (binOp .neq 26 (.pointer (some a)) (.pointer none)).run Try.prog w = .ok (.bool true) w := by kernel_rfl
theorem neq30n (w : World) : (binOp .neq 30 (.pointer none) (.pointer none)).run Try.prog w = .ok (.bool false) w := by kernel_rfl
theorem neq30s (a : Addr) (w : World) : (binOp .neq 30 (.pointer (some a)) (.pointer none)).run Try.prog w = .ok (.bool true) w := by kernel_rfl
theorem eql30s (a : Addr) (w : World) : (binOp .eql 30 (.pointer (some a)) (.pointer none)).run Try.prog w = .ok (.bool false) w := by kernel_rfl
def SmallPostB (l : List ByteArray) (w : World) (e : Ending) (w' : World) : Prop := ∃ b, e = .returned (.bool b) ∧ w = w' ∧ (b = true → ∀ s ∈ l, s.size ≤ 100)
set_option maxRecDepth 100000 in
set_option maxHeartbeats 4000000 in
theorem smallB_any (A : Option Addr) (c : Nat) (l : List ByteArray) (B : Option Addr) (d : Nat) (ps : List (ByteArray × ByteArray)) (w : World) (hA : Strs w A l) (hB : Prs w B ps) :
    Calls Try.prog 9 #[.slice A l.length c, .slice B ps.length d] w (SmallPostB l w) := by
  have HA := Lib.hid hA
  have HB := Lib.hid hB
  clear hA hB
  by_cases h20 : 20 < l.length
  · have hz : (20 : Int) < (l.length : Int) := by omega
    go_enter Try.func9, Try.ntmps9
    go_wp2
    go_ret
    exact ⟨_, rfl, rfl, (fun h => by first | exact absurd h (by decide) | exact HALL.out)⟩
  · have hz : ¬ (20 : Int) < (l.length : Int) := by omega
    by_cases h300 : 300 < ps.length
    · have hz3 : (300 : Int) < (ps.length : Int) := by omega
      go_enter Try.func9, Try.ntmps9
      go_wp2
      go_ret
      exact ⟨_, rfl, rfl, (fun h => by first | exact absurd h (by decide) | exact HALL.out)⟩
    · have hz3 : ¬ (300 : Int) < (ps.length : Int) := by omega
      go_enter Try.func9, Try.ntmps9
      go_wp2
      go_loop [5] (fun i => ∃ k : Nat, k ≤ l.length ∧ i = .int .i64 (k : Int) ∧ Hid (∀ j (hj : j < l.length), j < k → l[j].size ≤ 100)) (fun i => l.length - (intOf i).toNat)
      case atStart => exact ⟨0, by omega, rfl, Lib.hid (fun j hj h => absurd h (Nat.not_lt_zero _))⟩
      case round =>
        obtain ⟨k, hk, rfl, HPK⟩ := hrel
        by_cases hlt : k < l.length
        · have hlz : (k : Int) < (l.length : Int) := by omega
          obtain ⟨b, off, rfl, hb, hc⟩ := HA.out (by omega)
          have hck := hc k hlt
          have HX := Lib.hid (show l[k].size ≤ 100 → ∀ j (hj : j < l.length), j < k + 1 → l[j].size ≤ 100 from fun hx j hj h => by
            by_cases e : j = k
            · subst e; exact hx
            · exact HPK.out j hj (by omega))
          clear hc
          generalize l[k] = x at *
          by_cases hs : 100 < x.size
          · have hsz : (100 : Int) < (x.size : Int) := by omega
            go_wp2
            go_ret
            exact ⟨_, rfl, rfl, (fun h => by first | exact absurd h (by decide) | exact HALL.out)⟩
          · have hsz : ¬ (100 : Int) < (x.size : Int) := by omega
            go_wp2
            go_round
            case rel => exact ⟨k + 1, by omega, by go_num, Lib.hid (HX.out (by omega))⟩
            case measure => simp [intOf]; omega
        · have hlz : ¬ (k : Int) < (l.length : Int) := by omega
          have HALL := Lib.hid (show ∀ s ∈ l, s.size ≤ 100 from fun s hs => by
            obtain ⟨j, hj, rfl⟩ := List.getElem_of_mem hs
            exact HPK.out j hj (by omega))
          go_wp2
          go_loop [6] (fun i => ∃ k : Nat, k ≤ ps.length ∧ i = .int .i64 (k : Int)) (fun i => ps.length - (intOf i).toNat)
          case atStart => exact ⟨0, by omega, rfl⟩
          case round =>
            obtain ⟨j, hj, rfl⟩ := hrel
            by_cases hlj : j < ps.length
            · have hljz : (j : Int) < (ps.length : Int) := by omega
              obtain ⟨b, off, rfl, hb, hc⟩ := HB.out (by omega)
              obtain ⟨hc1, hc2⟩ := hc j hlj
              clear hc
              generalize ps[j].1 = x at *
              generalize ps[j].2 = y at *
              by_cases hs : 100 < x.size
              · have hsz : (100 : Int) < (x.size : Int) := by omega
                go_wp2
                go_ret
                exact ⟨_, rfl, rfl, (fun h => by first | exact absurd h (by decide) | exact HALL.out)⟩
              · have hsz : ¬ (100 : Int) < (x.size : Int) := by omega
                by_cases hs2 : 100 < y.size
                · have hsz2 : (100 : Int) < (y.size : Int) := by omega
                  go_wp2
                  go_ret
                  exact ⟨_, rfl, rfl, (fun h => by first | exact absurd h (by decide) | exact HALL.out)⟩
                · have hsz2 : ¬ (100 : Int) < (y.size : Int) := by omega
                  go_wp2
                  go_round
                  case rel => exact ⟨j + 1, by omega, by go_num⟩
                  case measure => simp [intOf]; omega
            · have hljz : ¬ (j : Int) < (ps.length : Int) := by omega
              go_wp2
              go_ret
              exact ⟨_, rfl, rfl, (fun h => by first | exact absurd h (by decide) | exact HALL.out)⟩
set_option maxRecDepth 100000 in
set_option maxHeartbeats 3000000 in
theorem levelsMake_any (A : Option Addr) (c : Nat) (l : List ByteArray) (B : Option Addr) (d : Nat) (ps : List (ByteArray × ByteArray)) (s : ByteArray) (x y : Int) (w : World) (hl : l.length ≤ maxLen) (hc : l.length ≤ c) (hs : ∀ s ∈ l, s.size ≤ maxLen) (hA : Strs w A l) (hps : ps.length ≤ maxLen) (hB : Prs w B ps) (hsz : s.size ≤ maxLen) :
    Calls Try.prog 3 #[.slice A l.length c, .slice B ps.length d, .string s, .int .i64 x, .int .i64 y] w fun e w' => e = .returned (.bool true) ∧ Below w.heap.size w w' := by
  have HSM := Lib.hid (fun w h1 h2 => smallB_any A c l B d ps w h1 h2)
  have HNW := Lib.hid (fun w h1 h2 => new_any A c l B d ps w hl hc hs h1 hps h2)
  have HRN := Lib.hid (fun (h100 : ∀ s ∈ l, s.size ≤ 100) w h1 h2 => rnew_any A c l B d ps w hl (fun s hs' => by have := h100 s hs'; omega) h1 hps h2)
  have HA := Lib.hid hA
  have HB := Lib.hid hB
  have HN1 := Lib.hid (fun w => name_any s w hsz)
  have HN2 := Lib.hid (fun (h : ¬ 100 < s.size) w => rname_any s w (by omega))
  have HLM := Lib.hid hl
  unfold maxLen at hsz
  clear hl hc hs hA hps hB
  have hnil := nil26
  have hnil' := nil26'
  have hq1 := neq26n
  have hq2 := neq26s
  have hq3 := neq30n
  have hq4 := neq30s
  have hq5 := eql30s
  go_enter Try.func3, Try.ntmps3
  go_upto_region 3 with (first
    | (go_at_call 8; refine (shown_any _).mono ?_; rintro e w1 ⟨rfl, hb1⟩)
    | (go_at_call 9; refine (HSM.out _ (HA.out.below hb1) (HB.out.below hb1)).mono ?_; rintro e w' ⟨b, rfl, rfl, hsm⟩))
  have HSMT := Lib.hid hsm
  clear hsm
  cases b with
  | false =>
    go_wp2
    go_ret
    exact ⟨rfl, hb1⟩
  | true =>
    by_cases h100 : 100 < s.size
    · have q1 : decide ((100 : Int) < (s.size : Int)) = true := decide_eq_true (by omega)
      go_wp2
      go_ret
      exact ⟨rfl, hb1⟩
    · have q1 : decide ((100 : Int) < (s.size : Int)) = false := decide_eq_false (by omega)
      have HN2 := Lib.hid (HN2.out h100)
      have HRN := Lib.hid (HRN.out (HSMT.out rfl))
      clear h100
      go_upto_region 6 with (go_at_call 10; refine (HNW.out _ (HA.out.below hb1) (HB.out.below hb1)).mono ?_; rintro e w2 hP; rcases hP with ⟨hne, rfl, hb2⟩ | ⟨he, g, hg, rfl, hb2, hLt⟩)
      · have hb12 := bt hb1 hb2
        have HP := Lib.hid (HRN.out w2 (HA.out.below hb12) (HB.out.below hb12))
        have HNE := Lib.hid hne
        clear HNW HRN HSM hb1 hb2 hne
        go_upto_region 7 with (go_at_call 11; refine HP.out.mono ?_; rintro e w3 hP; rcases hP with ⟨hne, rfl, hb3⟩ | ⟨he, _⟩)
        generalize newE l ps = r at *
        clear hne HNE HP
        generalize nameB s = nb at *
        go_wp2_with (first | (go_at_call 12; refine (HN1.out _).mono ?_; rintro e w' ⟨rfl, rfl⟩) | (go_at_call 13; refine (HN2.out _).mono ?_; rintro e w' ⟨rfl, rfl⟩))
        go_ret
        exact ⟨rfl, bt hb12 hb3⟩
      · have hb12 := bt hb1 hb2
        have HP := Lib.hid (HRN.out w2 (HA.out.below hb12) (HB.out.below hb12))
        have hLtt := (new_latt he).1
        have hW : LW w g l (uOf l ps) (dOf l ps) w2 := ⟨Nat.le_trans hb1.size hg, hb12, hLt⟩
        have hgl : g < w2.heap.size := by
          obtain ⟨dn, f, hD, _⟩ := hLt
          obtain ⟨A2, c2, hc0, _⟩ := hD.names
          exact World.block_lt_of_cell? w2 _ hc0
        have HLT := Lib.hid hLtt
        have HE := Lib.hid he
        have hga : ∀ a, A = some a → a.block < w.heap.size := fun a ha => by
          obtain ⟨b', o', e', hl', _⟩ := HA.out hLtt.pos
          rw [e'] at ha; injection ha with ha; subst ha; exact hl'
        have HW := Lib.hid (And.intro hW (And.intro hgl hga))
        clear HNW HRN HSM hb1 hb2 hg hLt hLtt hW hgl hga he
        go_upto_region 7 with (go_at_call 11; refine HP.out.mono ?_; rintro e w3 hP; rcases hP with ⟨hne, _⟩ | ⟨he, gr, V, rfl, hb3, hRL, hV⟩)
        obtain ⟨hW, hgl, hga⟩ := HW.out
        have hM : MW w g l (uOf l ps) (dOf l ps) A w2.heap.size gr V w3 := ⟨⟨hW.1, hW.2.1.trans (hb3.mono hW.2.1.size), hW.2.2.below hb3⟩, hRL, hgl, hga⟩
        have hL := HLT.out
        clear HP hb3 hRL he hW hgl hga HW HE HLT hb12
        generalize uOf l ps = u at *
        generalize dOf l ps = dd at *
        generalize w2.heap.size = base at *
        have HM := Lib.hid (And.intro hM (And.intro hL hV))
        clear hM hL hV
        generalize nameB s = nb at *
        go_upto_region 11 with (first | (go_at_call 12; refine (HN1.out _).mono ?_; rintro e w' ⟨rfl, rfl⟩) | (go_at_call 13; refine (HN2.out _).mono ?_; rintro e w' ⟨rfl, rfl⟩))
        clear HN1 HN2 hnil hnil' hq1 hq2 hq3 hq4 hq5 q1
        have HH := Lib.hid HM.out.2
        have hn16 := HM.out.2.1.le16
        go_wp2
        go_loopw [17] (fun i wr => ∃ z : Int, -1 ≤ z ∧ z ≤ l.length + 1 ∧ i = .int .i64 z ∧ MW w g l u dd A base gr V wr) (fun i _ => (l.length + 1 - intOf i).toNat)
        case atStart => exact ⟨-1, Int.le_refl _, by omega, rfl, HM.out.1⟩
        case round =>
          clear HM
          obtain ⟨za, ha1, ha2, rfl, hM⟩ := hrel
          by_cases hza : za ≤ (l.length : Int)
          · have HM := Lib.hid hM
            clear hM
            go_wp2
            go_loopw [18] (fun i wr => ∃ z : Int, -1 ≤ z ∧ z ≤ l.length + 1 ∧ i = .int .i64 z ∧ MW w g l u dd A base gr V wr) (fun i _ => (l.length + 1 - intOf i).toNat)
            case atStart => exact ⟨-1, Int.le_refl _, by omega, rfl, HM.out⟩
            case round =>
              clear HM
              obtain ⟨zb, hb1, hb2, rfl, hM⟩ := hrel
              by_cases hzb : zb ≤ (l.length : Int)
              · go_upto_region 17 with (fail)
                obtain ⟨hL, hV⟩ := HH.out
                refine p_region ?_
                refine p_move (v := .pointer (some ⟨g, 0, none⟩)) rfl rfl ?_
                simp only [Act.put, List.setIfInBounds_toArray, List.set_cons_zero, List.set_cons_succ]
                refine p_move (v := .int .i64 za) rfl rfl ?_
                simp only [Act.put, List.setIfInBounds_toArray, List.set_cons_zero, List.set_cons_succ]
                refine p_move (v := .int .i64 zb) rfl rfl ?_
                simp only [Act.put, List.setIfInBounds_toArray, List.set_cons_zero, List.set_cons_succ]
                refine p_call (args := #[.pointer (some ⟨g, 0, none⟩), .int .i64 za, .int .i64 zb]) (v := .bool (beB l.length V za zb)) (C := MW w g l u dd A base gr V) own14 rfl rfl (mw_below hL hV za zb hM) ?_
                intro wa1 ha1
                simp only [Act.put, List.setIfInBounds_toArray, List.set_cons_zero, List.set_cons_succ]
                refine p_move (v := .pointer (some ⟨gr, 0, none⟩)) rfl rfl ?_
                simp only [Act.put, List.setIfInBounds_toArray, List.set_cons_zero, List.set_cons_succ]
                refine p_move (v := .int .i64 za) rfl rfl ?_
                simp only [Act.put, List.setIfInBounds_toArray, List.set_cons_zero, List.set_cons_succ]
                refine p_move (v := .int .i64 zb) rfl rfl ?_
                simp only [Act.put, List.setIfInBounds_toArray, List.set_cons_zero, List.set_cons_succ]
                refine p_call (args := #[.pointer (some ⟨gr, 0, none⟩), .int .i64 za, .int .i64 zb]) (v := .bool (beB l.length V za zb)) (C := MW w g l u dd A base gr V) own15 rfl rfl (mr_below za zb ha1) ?_
                intro wa2 ha2
                simp only [Act.put, List.setIfInBounds_toArray, List.set_cons_zero, List.set_cons_succ]
                refine p_neqB (b := false) rfl rfl rfl (by simp) ?_
                simp only [Act.put, List.setIfInBounds_toArray, List.set_cons_zero, List.set_cons_succ]
                refine p_move (v := .bool false) rfl rfl ?_
                simp only [Act.put, List.setIfInBounds_toArray, List.set_cons_zero, List.set_cons_succ]
                refine p_move (v := .pointer (some ⟨g, 0, none⟩)) rfl rfl ?_
                simp only [Act.put, List.setIfInBounds_toArray, List.set_cons_zero, List.set_cons_succ]
                refine p_move (v := .int .i64 za) rfl rfl ?_
                simp only [Act.put, List.setIfInBounds_toArray, List.set_cons_zero, List.set_cons_succ]
                refine p_move (v := .int .i64 zb) rfl rfl ?_
                simp only [Act.put, List.setIfInBounds_toArray, List.set_cons_zero, List.set_cons_succ]
                refine p_call (args := #[.pointer (some ⟨g, 0, none⟩), .int .i64 za, .int .i64 zb]) (v := .int .i64 (fstI l.length (jnB l.length V za zb))) (C := MW w g l u dd A base gr V) own16 rfl rfl (mw_join hL hV za zb ha2) ?_
                intro wa3 ha3
                simp only [Act.put, List.setIfInBounds_toArray, List.set_cons_zero, List.set_cons_succ]
                refine p_move (v := .pointer (some ⟨gr, 0, none⟩)) rfl rfl ?_
                simp only [Act.put, List.setIfInBounds_toArray, List.set_cons_zero, List.set_cons_succ]
                refine p_move (v := .int .i64 za) rfl rfl ?_
                simp only [Act.put, List.setIfInBounds_toArray, List.set_cons_zero, List.set_cons_succ]
                refine p_move (v := .int .i64 zb) rfl rfl ?_
                simp only [Act.put, List.setIfInBounds_toArray, List.set_cons_zero, List.set_cons_succ]
                refine p_call (args := #[.pointer (some ⟨gr, 0, none⟩), .int .i64 za, .int .i64 zb]) (v := .int .i64 (fstI l.length (jnB l.length V za zb))) (C := MW w g l u dd A base gr V) own17 rfl rfl (mr_join hL za zb ha3) ?_
                intro wa4 ha4
                simp only [Act.put, List.setIfInBounds_toArray, List.set_cons_zero, List.set_cons_succ]
                refine p_neqI (b := false) rfl rfl rfl (by simp) ?_
                simp only [Act.put, List.setIfInBounds_toArray, List.set_cons_zero, List.set_cons_succ]
                refine p_pickF (v := .bool false) rfl rfl rfl ?_
                simp only [Act.put, List.setIfInBounds_toArray, List.set_cons_zero, List.set_cons_succ]
                refine p_move (v := .bool false) rfl rfl ?_
                simp only [Act.put, List.setIfInBounds_toArray, List.set_cons_zero, List.set_cons_succ]
                refine p_move (v := .pointer (some ⟨g, 0, none⟩)) rfl rfl ?_
                simp only [Act.put, List.setIfInBounds_toArray, List.set_cons_zero, List.set_cons_succ]
                refine p_move (v := .int .i64 za) rfl rfl ?_
                simp only [Act.put, List.setIfInBounds_toArray, List.set_cons_zero, List.set_cons_succ]
                refine p_move (v := .int .i64 zb) rfl rfl ?_
                simp only [Act.put, List.setIfInBounds_toArray, List.set_cons_zero, List.set_cons_succ]
                refine p_call (args := #[.pointer (some ⟨g, 0, none⟩), .int .i64 za, .int .i64 zb]) (v := .int .i64 (fstI l.length (mtB l.length V za zb))) (C := MW w g l u dd A base gr V) own18 rfl rfl (mw_meet hL hV za zb ha4) ?_
                intro wa5 ha5
                simp only [Act.put, List.setIfInBounds_toArray, List.set_cons_zero, List.set_cons_succ]
                refine p_move (v := .pointer (some ⟨gr, 0, none⟩)) rfl rfl ?_
                simp only [Act.put, List.setIfInBounds_toArray, List.set_cons_zero, List.set_cons_succ]
                refine p_move (v := .int .i64 za) rfl rfl ?_
                simp only [Act.put, List.setIfInBounds_toArray, List.set_cons_zero, List.set_cons_succ]
                refine p_move (v := .int .i64 zb) rfl rfl ?_
                simp only [Act.put, List.setIfInBounds_toArray, List.set_cons_zero, List.set_cons_succ]
                refine p_call (args := #[.pointer (some ⟨gr, 0, none⟩), .int .i64 za, .int .i64 zb]) (v := .int .i64 (fstI l.length (mtB l.length V za zb))) (C := MW w g l u dd A base gr V) own19 rfl rfl (mr_meet hL za zb ha5) ?_
                intro wa6 ha6
                simp only [Act.put, List.setIfInBounds_toArray, List.set_cons_zero, List.set_cons_succ]
                refine p_neqI (b := false) rfl rfl rfl (by simp) ?_
                simp only [Act.put, List.setIfInBounds_toArray, List.set_cons_zero, List.set_cons_succ]
                refine p_pickF (v := .bool false) rfl rfl rfl ?_
                simp only [Act.put, List.setIfInBounds_toArray, List.set_cons_zero, List.set_cons_succ]
                refine wpList_nil ?_
                clear hL hV
                have HM := Lib.hid ha6
                clear hM ha1 ha2 ha3 ha4 ha5 ha6
                go_wp2
                go_roundw
                case rel => exact ⟨zb + 1, by omega, by omega, rfl, HM.out⟩
                case measure => simp [intOf]; omega
              · obtain rfl : zb = (l.length : Int) + 1 := by omega
                have HM := Lib.hid hM
                clear hM
                have hq : ¬ (l.length : Int) + 1 ≤ (l.length : Int) := by omega
                go_wp2
                go_roundw
                case rel => exact ⟨za + 1, by omega, by omega, rfl, HM.out⟩
                case measure => simp [intOf]; omega
          · obtain rfl : za = (l.length : Int) + 1 := by omega
            have hq : ¬ (l.length : Int) + 1 ≤ (l.length : Int) := by omega
            go_upto_region 19 with (fail)
            obtain ⟨hL, hV⟩ := HH.out
            have HRC := Lib.hid (fun w' (h : RLat w' gr l V) => (cov_same hL.toOrd hV) ▸ rcovers_any gr l V w' hL.le16 h)
            have HCL := Lib.hid (show (cvTo l.length u dd l.length).length ≤ 256 by
              have h1 := cvTo_len l.length u dd l.length
              have h2 : l.length * l.length ≤ 16 * 16 := Nat.mul_le_mul hn16 hn16
              omega)
            refine p_region ?_
            refine p_move (v := .pointer (some ⟨g, 0, none⟩)) rfl rfl ?_
            simp only [Act.put, List.setIfInBounds_toArray, List.set_cons_zero, List.set_cons_succ]
            refine p_move (v := .int .i64 x) rfl rfl ?_
            simp only [Act.put, List.setIfInBounds_toArray, List.set_cons_zero, List.set_cons_succ]
            refine p_move (v := .int .i64 y) rfl rfl ?_
            simp only [Act.put, List.setIfInBounds_toArray, List.set_cons_zero, List.set_cons_succ]
            refine p_call (args := #[.pointer (some ⟨g, 0, none⟩), .int .i64 x, .int .i64 y]) (v := .bool (beB l.length V x y)) (C := MW w g l u dd A base gr V) own14 rfl rfl (mw_below hL hV x y hM) ?_
            intro wb1 hb1
            simp only [Act.put, List.setIfInBounds_toArray, List.set_cons_zero, List.set_cons_succ]
            refine p_move (v := .pointer (some ⟨gr, 0, none⟩)) rfl rfl ?_
            simp only [Act.put, List.setIfInBounds_toArray, List.set_cons_zero, List.set_cons_succ]
            refine p_move (v := .int .i64 x) rfl rfl ?_
            simp only [Act.put, List.setIfInBounds_toArray, List.set_cons_zero, List.set_cons_succ]
            refine p_move (v := .int .i64 y) rfl rfl ?_
            simp only [Act.put, List.setIfInBounds_toArray, List.set_cons_zero, List.set_cons_succ]
            refine p_call (args := #[.pointer (some ⟨gr, 0, none⟩), .int .i64 x, .int .i64 y]) (v := .bool (beB l.length V x y)) (C := MW w g l u dd A base gr V) own15 rfl rfl (mr_below x y hb1) ?_
            intro wb2 hb2
            simp only [Act.put, List.setIfInBounds_toArray, List.set_cons_zero, List.set_cons_succ]
            refine p_eqlB (b := true) rfl rfl rfl (by simp) ?_
            simp only [Act.put, List.setIfInBounds_toArray, List.set_cons_zero, List.set_cons_succ]
            refine p_move (v := .bool true) rfl rfl ?_
            simp only [Act.put, List.setIfInBounds_toArray, List.set_cons_zero, List.set_cons_succ]
            refine p_move (v := .pointer (some ⟨g, 0, none⟩)) rfl rfl ?_
            simp only [Act.put, List.setIfInBounds_toArray, List.set_cons_zero, List.set_cons_succ]
            refine p_move (v := .int .i64 x) rfl rfl ?_
            simp only [Act.put, List.setIfInBounds_toArray, List.set_cons_zero, List.set_cons_succ]
            refine p_move (v := .int .i64 y) rfl rfl ?_
            simp only [Act.put, List.setIfInBounds_toArray, List.set_cons_zero, List.set_cons_succ]
            refine p_call (args := #[.pointer (some ⟨g, 0, none⟩), .int .i64 x, .int .i64 y]) (v := .int .i64 (fstI l.length (jnB l.length V x y))) (C := MW w g l u dd A base gr V) own16 rfl rfl (mw_join hL hV x y hb2) ?_
            intro wb3 hb3
            simp only [Act.put, List.setIfInBounds_toArray, List.set_cons_zero, List.set_cons_succ]
            refine p_move (v := .pointer (some ⟨gr, 0, none⟩)) rfl rfl ?_
            simp only [Act.put, List.setIfInBounds_toArray, List.set_cons_zero, List.set_cons_succ]
            refine p_move (v := .int .i64 x) rfl rfl ?_
            simp only [Act.put, List.setIfInBounds_toArray, List.set_cons_zero, List.set_cons_succ]
            refine p_move (v := .int .i64 y) rfl rfl ?_
            simp only [Act.put, List.setIfInBounds_toArray, List.set_cons_zero, List.set_cons_succ]
            refine p_call (args := #[.pointer (some ⟨gr, 0, none⟩), .int .i64 x, .int .i64 y]) (v := .int .i64 (fstI l.length (jnB l.length V x y))) (C := MW w g l u dd A base gr V) own17 rfl rfl (mr_join hL x y hb3) ?_
            intro wb4 hb4
            simp only [Act.put, List.setIfInBounds_toArray, List.set_cons_zero, List.set_cons_succ]
            refine p_eqlI (b := true) rfl rfl rfl (by simp) ?_
            simp only [Act.put, List.setIfInBounds_toArray, List.set_cons_zero, List.set_cons_succ]
            refine p_pickT (v := .bool true) rfl rfl rfl ?_
            simp only [Act.put, List.setIfInBounds_toArray, List.set_cons_zero, List.set_cons_succ]
            refine p_move (v := .bool true) rfl rfl ?_
            simp only [Act.put, List.setIfInBounds_toArray, List.set_cons_zero, List.set_cons_succ]
            refine p_move (v := .pointer (some ⟨g, 0, none⟩)) rfl rfl ?_
            simp only [Act.put, List.setIfInBounds_toArray, List.set_cons_zero, List.set_cons_succ]
            refine p_move (v := .int .i64 y) rfl rfl ?_
            simp only [Act.put, List.setIfInBounds_toArray, List.set_cons_zero, List.set_cons_succ]
            refine p_move (v := .int .i64 x) rfl rfl ?_
            simp only [Act.put, List.setIfInBounds_toArray, List.set_cons_zero, List.set_cons_succ]
            refine p_call (args := #[.pointer (some ⟨g, 0, none⟩), .int .i64 y, .int .i64 x]) (v := .int .i64 (fstI l.length (mtB l.length V y x))) (C := MW w g l u dd A base gr V) own18 rfl rfl (mw_meet hL hV y x hb4) ?_
            intro wb5 hb5
            simp only [Act.put, List.setIfInBounds_toArray, List.set_cons_zero, List.set_cons_succ]
            refine p_move (v := .pointer (some ⟨gr, 0, none⟩)) rfl rfl ?_
            simp only [Act.put, List.setIfInBounds_toArray, List.set_cons_zero, List.set_cons_succ]
            refine p_move (v := .int .i64 y) rfl rfl ?_
            simp only [Act.put, List.setIfInBounds_toArray, List.set_cons_zero, List.set_cons_succ]
            refine p_move (v := .int .i64 x) rfl rfl ?_
            simp only [Act.put, List.setIfInBounds_toArray, List.set_cons_zero, List.set_cons_succ]
            refine p_call (args := #[.pointer (some ⟨gr, 0, none⟩), .int .i64 y, .int .i64 x]) (v := .int .i64 (fstI l.length (mtB l.length V y x))) (C := MW w g l u dd A base gr V) own19 rfl rfl (mr_meet hL y x hb5) ?_
            intro wb6 hb6
            simp only [Act.put, List.setIfInBounds_toArray, List.set_cons_zero, List.set_cons_succ]
            refine p_eqlI (b := true) rfl rfl rfl (by simp) ?_
            simp only [Act.put, List.setIfInBounds_toArray, List.set_cons_zero, List.set_cons_succ]
            refine p_pickT (v := .bool true) rfl rfl rfl ?_
            simp only [Act.put, List.setIfInBounds_toArray, List.set_cons_zero, List.set_cons_succ]
            refine p_assign (v := .bool true) rfl rfl ?_
            simp only [Act.put, List.setIfInBounds_toArray, List.set_cons_zero, List.set_cons_succ]
            refine wpList_nil ?_
            go_upto_region 20 with (fail)
            refine p_region ?_
            refine p_move (v := .bool true) rfl rfl ?_
            simp only [Act.put, List.setIfInBounds_toArray, List.set_cons_zero, List.set_cons_succ]
            refine p_move (v := .bool true) rfl rfl ?_
            simp only [Act.put, List.setIfInBounds_toArray, List.set_cons_zero, List.set_cons_succ]
            refine p_move (v := .pointer (some ⟨g, 0, none⟩)) rfl rfl ?_
            simp only [Act.put, List.setIfInBounds_toArray, List.set_cons_zero, List.set_cons_succ]
            refine p_call (args := #[.pointer (some ⟨g, 0, none⟩)]) (v := .int .i64 (l.length : Int)) (C := MW w g l u dd A base gr V) own20 rfl rfl (mw_len hb6) ?_
            intro wc1 hc1
            simp only [Act.put, List.setIfInBounds_toArray, List.set_cons_zero, List.set_cons_succ]
            refine p_move (v := .slice A l.length c) rfl rfl ?_
            simp only [Act.put, List.setIfInBounds_toArray, List.set_cons_zero, List.set_cons_succ]
            refine p_lenS rfl rfl ?_
            simp only [Act.put, List.setIfInBounds_toArray, List.set_cons_zero, List.set_cons_succ]
            refine p_eqlI (b := true) rfl rfl rfl (by simp) ?_
            simp only [Act.put, List.setIfInBounds_toArray, List.set_cons_zero, List.set_cons_succ]
            refine p_pickT (v := .bool true) rfl rfl rfl ?_
            simp only [Act.put, List.setIfInBounds_toArray, List.set_cons_zero, List.set_cons_succ]
            refine p_move (v := .bool true) rfl rfl ?_
            simp only [Act.put, List.setIfInBounds_toArray, List.set_cons_zero, List.set_cons_succ]
            refine p_move (v := .pointer (some ⟨g, 0, none⟩)) rfl rfl ?_
            simp only [Act.put, List.setIfInBounds_toArray, List.set_cons_zero, List.set_cons_succ]
            refine p_callE (args := #[.pointer (some ⟨g, 0, none⟩)]) (C := fun v w' => ∃ A' c', v = .slice A' l.length c' ∧ Strs w' A' l ∧ MW w g l u dd A base gr V w') own22 rfl rfl ((names_any g l u dd _ hL.pos hL.le16 (MW.lw hc1).2.2).mono (fun _ _ ⟨A', c', he, hS, hb⟩ => ⟨_, he, A', c', rfl, hS, MW.keep hc1 hb⟩)) ?_
            rintro _ wN ⟨AN, cN, rfl, hSN, hMN⟩
            simp only [Act.put, List.setIfInBounds_toArray, List.set_cons_zero, List.set_cons_succ]
            refine p_move (v := .slice A l.length c) rfl rfl ?_
            simp only [Act.put, List.setIfInBounds_toArray, List.set_cons_zero, List.set_cons_succ]
            refine p_call (args := #[.slice AN l.length cN, .slice A l.length c]) (v := .bool true) (C := MW w g l u dd A base gr V) own21 rfl rfl ((texts_same AN A cN c l _ HLM.out hSN (HA.out.below (MW.lw hMN).2.1)).mono (fun _ _ hh => ⟨hh.1, by have h2 := hh.2; first | (rw [← h2]; exact hMN) | (obtain ⟨k, hk⟩ := h2; rw [hk]; exact hMN.drewN k)⟩)) ?_
            intro wT hMT
            simp only [Act.put, List.setIfInBounds_toArray, List.set_cons_zero, List.set_cons_succ]
            refine p_pickT (v := .bool true) rfl rfl rfl ?_
            simp only [Act.put, List.setIfInBounds_toArray, List.set_cons_zero, List.set_cons_succ]
            refine p_move (v := .bool true) rfl rfl ?_
            simp only [Act.put, List.setIfInBounds_toArray, List.set_cons_zero, List.set_cons_succ]
            refine p_move (v := .pointer (some ⟨g, 0, none⟩)) rfl rfl ?_
            simp only [Act.put, List.setIfInBounds_toArray, List.set_cons_zero, List.set_cons_succ]
            refine p_move (v := .string s) rfl rfl ?_
            simp only [Act.put, List.setIfInBounds_toArray, List.set_cons_zero, List.set_cons_succ]
            refine p_call (args := #[.pointer (some ⟨g, 0, none⟩), .string s]) (v := .int .i64 (idxO l s)) (C := MW w g l u dd A base gr V) own23 rfl rfl (mw_place hL s hMT) ?_
            intro wc4 hc4
            simp only [Act.put, List.setIfInBounds_toArray, List.set_cons_zero, List.set_cons_succ]
            refine p_move (v := .pointer (some ⟨gr, 0, none⟩)) rfl rfl ?_
            simp only [Act.put, List.setIfInBounds_toArray, List.set_cons_zero, List.set_cons_succ]
            refine p_move (v := .string s) rfl rfl ?_
            simp only [Act.put, List.setIfInBounds_toArray, List.set_cons_zero, List.set_cons_succ]
            refine p_call (args := #[.pointer (some ⟨gr, 0, none⟩), .string s]) (v := .int .i64 (idxO l s)) (C := MW w g l u dd A base gr V) own24 rfl rfl (mr_place hL s hc4) ?_
            intro wc5 hc5
            simp only [Act.put, List.setIfInBounds_toArray, List.set_cons_zero, List.set_cons_succ]
            refine p_eqlI (b := true) rfl rfl rfl (by simp) ?_
            simp only [Act.put, List.setIfInBounds_toArray, List.set_cons_zero, List.set_cons_succ]
            refine p_pickT (v := .bool true) rfl rfl rfl ?_
            simp only [Act.put, List.setIfInBounds_toArray, List.set_cons_zero, List.set_cons_succ]
            refine p_move (v := .bool true) rfl rfl ?_
            simp only [Act.put, List.setIfInBounds_toArray, List.set_cons_zero, List.set_cons_succ]
            refine p_move (v := .pointer (some ⟨g, 0, none⟩)) rfl rfl ?_
            simp only [Act.put, List.setIfInBounds_toArray, List.set_cons_zero, List.set_cons_succ]
            refine p_call (args := #[.pointer (some ⟨g, 0, none⟩)]) (v := .int .i64 (idxM l.length u (2 ^ l.length - 1))) (C := MW w g l u dd A base gr V) own25 rfl rfl (mw_bottom hL hc5) ?_
            intro wc6 hc6
            simp only [Act.put, List.setIfInBounds_toArray, List.set_cons_zero, List.set_cons_succ]
            refine p_move (v := .pointer (some ⟨gr, 0, none⟩)) rfl rfl ?_
            simp only [Act.put, List.setIfInBounds_toArray, List.set_cons_zero, List.set_cons_succ]
            refine p_call (args := #[.pointer (some ⟨gr, 0, none⟩)]) (v := .int .i64 (idxM l.length u (2 ^ l.length - 1))) (C := MW w g l u dd A base gr V) own26 rfl rfl (mr_bottom hL hV hc6) ?_
            intro wc7 hc7
            simp only [Act.put, List.setIfInBounds_toArray, List.set_cons_zero, List.set_cons_succ]
            refine p_eqlI (b := true) rfl rfl rfl (by simp) ?_
            simp only [Act.put, List.setIfInBounds_toArray, List.set_cons_zero, List.set_cons_succ]
            refine p_pickT (v := .bool true) rfl rfl rfl ?_
            simp only [Act.put, List.setIfInBounds_toArray, List.set_cons_zero, List.set_cons_succ]
            refine p_move (v := .bool true) rfl rfl ?_
            simp only [Act.put, List.setIfInBounds_toArray, List.set_cons_zero, List.set_cons_succ]
            refine p_move (v := .pointer (some ⟨g, 0, none⟩)) rfl rfl ?_
            simp only [Act.put, List.setIfInBounds_toArray, List.set_cons_zero, List.set_cons_succ]
            refine p_call (args := #[.pointer (some ⟨g, 0, none⟩)]) (v := .int .i64 (idxM l.length dd (2 ^ l.length - 1))) (C := MW w g l u dd A base gr V) own27 rfl rfl (mw_top hL hc7) ?_
            intro wc8 hc8
            simp only [Act.put, List.setIfInBounds_toArray, List.set_cons_zero, List.set_cons_succ]
            refine p_move (v := .pointer (some ⟨gr, 0, none⟩)) rfl rfl ?_
            simp only [Act.put, List.setIfInBounds_toArray, List.set_cons_zero, List.set_cons_succ]
            refine p_call (args := #[.pointer (some ⟨gr, 0, none⟩)]) (v := .int .i64 (idxM l.length dd (2 ^ l.length - 1))) (C := MW w g l u dd A base gr V) own28 rfl rfl (mr_top hL hV hc8) ?_
            intro wc9 hc9
            simp only [Act.put, List.setIfInBounds_toArray, List.set_cons_zero, List.set_cons_succ]
            refine p_eqlI (b := true) rfl rfl rfl (by simp) ?_
            simp only [Act.put, List.setIfInBounds_toArray, List.set_cons_zero, List.set_cons_succ]
            refine p_pickT (v := .bool true) rfl rfl rfl ?_
            simp only [Act.put, List.setIfInBounds_toArray, List.set_cons_zero, List.set_cons_succ]
            refine p_move (v := .bool true) rfl rfl ?_
            simp only [Act.put, List.setIfInBounds_toArray, List.set_cons_zero, List.set_cons_succ]
            refine p_move (v := .pointer (some ⟨g, 0, none⟩)) rfl rfl ?_
            simp only [Act.put, List.setIfInBounds_toArray, List.set_cons_zero, List.set_cons_succ]
            refine p_callE (args := #[.pointer (some ⟨g, 0, none⟩)]) (C := fun v w' => ∃ A' c', v = .slice A' (cvTo l.length u dd l.length).length c' ∧ Nps w' A' (cvTo l.length u dd l.length) ∧ MW w g l u dd A base gr V w') own30 rfl rfl ((covers_any g l u dd _ hL.le16 hL.fitU hL.fitD (MW.lw hc9).2.2).mono (fun _ _ ⟨A', c', he, hS, hb, _⟩ => ⟨_, he, A', c', rfl, hS, MW.keep hc9 hb⟩)) ?_
            rintro _ wC ⟨AC, cC, rfl, hNC, hMC⟩
            simp only [Act.put, List.setIfInBounds_toArray, List.set_cons_zero, List.set_cons_succ]
            refine p_move (v := .pointer (some ⟨gr, 0, none⟩)) rfl rfl ?_
            simp only [Act.put, List.setIfInBounds_toArray, List.set_cons_zero, List.set_cons_succ]
            refine p_callE (args := #[.pointer (some ⟨gr, 0, none⟩)]) (C := fun v w' => ∃ A' c', v = .slice A' (cvTo l.length u dd l.length).length c' ∧ Nps w' A' (cvTo l.length u dd l.length) ∧ Below wC.heap.size wC w' ∧ MW w g l u dd A base gr V w') own31 rfl rfl ((HRC.out wC (MW.ro hMC).lat).mono (fun _ _ ⟨A', c', he, hS, hb, _⟩ => ⟨_, he, A', c', rfl, hS, hb, MW.keep hMC hb⟩)) ?_
            rintro _ wD ⟨AD, cD, rfl, hND, hbD, hMD⟩
            simp only [Act.put, List.setIfInBounds_toArray, List.set_cons_zero, List.set_cons_succ]
            refine p_call (args := #[.slice AC (cvTo l.length u dd l.length).length cC, .slice AD (cvTo l.length u dd l.length).length cD]) (v := .bool true) (C := MW w g l u dd A base gr V) own29 rfl rfl ((same_any AC AD cC cD _ _ HCL.out (hNC.below hbD) hND).mono (fun _ _ ⟨he, k, hk⟩ => ⟨he, by rw [hk]; exact hMD.drewN k⟩)) ?_
            intro wE hME
            simp only [Act.put, List.setIfInBounds_toArray, List.set_cons_zero, List.set_cons_succ]
            refine p_pickT (v := .bool true) rfl rfl rfl ?_
            simp only [Act.put, List.setIfInBounds_toArray, List.set_cons_zero, List.set_cons_succ]
            refine p_assign (v := .bool true) rfl rfl ?_
            simp only [Act.put, List.setIfInBounds_toArray, List.set_cons_zero, List.set_cons_succ]
            refine wpList_nil ?_
            go_wp2
            go_ret
            exact ⟨rfl, (MW.lw hME).2.1⟩
end Go.Proofs.Ytefnbjkmmmdagaa
