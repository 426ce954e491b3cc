/- PROVED here: the contract of the document's Cut. No condition but those in each theorem's own head. -/
import Derived.Test.YtahmadelokofbaaDoorRf
namespace Go.Proofs.YtahmadelokofbaaDoor
open Go Go.RowKit

theorem word_piece {l : List UInt8} {p m : Nat} (hp : p < l.length) (hw : wdB (l.getD p 0) = true) (ha : AllIn wdB l p m) (h1 : p ≤ m) (h2 : m ≤ l.length) (hend : ∀ h : m < l.length, wdB l[m] = false) :
    p + 1 ≤ m ∧ sub l p m = pc (l.drop p) ∧ allW (sub l p m) = true ∧ sub l p m ≠ [] ∧ m = p + (pc (l.drop p)).length := by
  have hpm : p + 1 ≤ m := by
    rcases Nat.lt_or_ge p m with h | h
    · exact h
    · have e : p = m := by omega
      subst e
      have := hend hp
      rw [List.getD_eq_getElem?_getD, List.getElem?_eq_getElem hp] at hw
      simp only [Option.getD_some] at hw
      rw [this] at hw; cases hw
  have ha' : AllIn wdB l (p + 1) m := fun j hj a b => ha j hj (by omega) b
  have e := tw_len ha' hpm h2 hend
  have hpc : pc (l.drop p) = l.getD p 0 :: (l.drop (p + 1)).takeWhile wdB := by rw [drop_at hp]; simp only [pc, hw, if_true]
  have hsub : sub l p m = pc (l.drop p) := by
    unfold sub
    rw [hpc, drop_at hp, show m - p = (m - (p + 1)) + 1 by omega, List.take_succ_cons, ← e, take_tw]
  refine ⟨hpm, hsub, ?_, ?_, ?_⟩
  · rw [hsub, hpc]
    unfold allW
    rw [List.all_cons, hw, Bool.true_and, List.all_eq_true]
    exact all_tw _
  · rw [hsub, hpc]; simp
  · rw [hpc, List.length_cons, e]; omega
theorem nonword {l : List UInt8} {p m : Nat} (hp : p < l.length) (hw : wdB (l.getD p 0) = false) (ha : AllIn wdB l p m) (h1 : p ≤ m) : m = p := by
  rcases Nat.lt_or_ge p m with h | h
  · have := ha p hp (Nat.le_refl _) h
    rw [List.getD_eq_getElem?_getD, List.getElem?_eq_getElem hp] at hw
    simp only [Option.getD_some] at hw
    rw [this] at hw; cases hw
  · omega
def Inv2 (l : List UInt8) (p : Nat) (acc : List Tok) : Prop := cutL 0 l = (cutL p (l.drop p)).pre acc ∧ acc.length ≤ p ∧ (p < l.length → spB (l.getD p 0) = false ∧ cmB (l.getD p 0) = false)
theorem inv2_start {l : List UInt8} {j : Nat} (h : EqAt l 0 j) (h2 : j < l.length → spB (l.getD j 0) = false ∧ cmB (l.getD j 0) = false) : Inv2 l j [] := by
  refine ⟨?_, by simp, h2⟩
  have : cutL 0 (l.drop 0) = cutL j (l.drop j) := h
  rw [Res.pre_nil, ← this, List.drop_zero]
theorem inv2_bad {l : List UInt8} {p : Nat} {acc : List Tok} (h : Inv2 l p acc) (hp : p < l.length) (ht : tokK (pc (l.drop p)) = 0) : cutL 0 l = .bad p := by
  obtain ⟨h1, _, h3⟩ := h
  obtain ⟨s1, s2⟩ := h3 hp
  rw [h1]
  rw [drop_at hp] at ht ⊢
  rw [cutL_bad s1 s2 ht]; rfl
theorem inv2_tok {l : List UInt8} {p m j : Nat} {acc : List Tok} (h : Inv2 l p acc) (hp : p < l.length) (ht : tokK (pc (l.drop p)) ≠ 0) (hm : m = p + (pc (l.drop p)).length) (hj : EqAt l m j) (hmj : m ≤ j) (h2 : j < l.length → spB (l.getD j 0) = false ∧ cmB (l.getD j 0) = false) :
    Inv2 l j (acc ++ [oneT p (pc (l.drop p))]) := by
  obtain ⟨h1, h4, h3⟩ := h
  obtain ⟨s1, s2⟩ := h3 hp
  have hpos : 1 ≤ (pc (l.drop p)).length := by rw [drop_at hp]; exact pc_len_pos _ _
  refine ⟨?_, by simp; omega, h2⟩
  have hj' : cutL m (l.drop m) = cutL j (l.drop j) := hj
  have hc : cutL p (l.drop p) = (cutL m (l.drop m)).pre [oneT p (pc (l.drop p))] := by
    rw [hm, ← List.drop_drop]
    rw [drop_at hp] at ht ⊢
    rw [cutL_tok s1 s2 ht]
  rw [h1, hc, Res.pre_pre, hj']
theorem inv2_end {l : List UInt8} {p : Nat} {acc : List Tok} (h : Inv2 l p acc) (hp : ¬ p < l.length) (hp2 : p ≤ l.length) : cutL 0 l = .ok (acc ++ [endT l.length]) := by
  have e : p = l.length := by omega
  subst e
  rw [h.1, List.drop_length, cutL_nil]; rfl
theorem slice_from (s : ByteArray) (k : Nat) (h : k ≤ s.size) (w : World) : (Instr.slice 9 (.string s) (some (.int .i64 (k : Int))) none none).run Tryd.prog w = .ok (.string (s.extract k s.size)) w := by
  rw [run_slice_string_from_if w 9 s .i64 (k : Int) Tryd.underlying9]
  have : 0 ≤ (k : Int) ∧ (k : Int) ≤ (s.size : Int) := by omega
  simp [this]
theorem sub_end (l : List UInt8) (p : Nat) : sub l p l.length = l.drop p := by
  unfold sub; exact List.take_of_length_le (by simp)
theorem rskip_at (s : ByteArray) (i : Nat) (ii : Int) (w : World) (hii : ii = (i : Int)) (hi : i ≤ s.size) (hmax : s.size ≤ 281474976710656) : Calls Tryd.prog 27 #[.string s, .int .i64 ii] w (SkPost s.data.toList i w) := by
  subst hii; exact rskip_any s i w hi hmax
def SkQ (l : List UInt8) (m : Nat) (w : World) (e : Ending) (w' : World) : Prop := SkPost l m w e w'
set_option maxRecDepth 100000 in
set_option maxHeartbeats 4000000 in
theorem rcut_any (s : ByteArray) (w : World) (hs : s.size ≤ 2000) : Calls Tryd.prog 12 #[.string s] w (CutPost s.data.toList w) := by
  obtain ⟨i0, hi, hz0, hz1, hz2⟩ := info_parts info34
  have HL := Lib.hid (show s.data.toList.length = s.size by simp)
  have hsz : ¬ (20000 : Int) < (s.size : Int) := by omega
  have hsm : s.size ≤ 281474976710656 := by omega
  go_enter Tryd.func12, Tryd.ntmps12
  go_wp2_with (go_at_call 27; refine (rskip_any s 0 _ (Nat.zero_le _) hsm).mono ?_)
  rintro e w0 ⟨j0, rfl, _, hj2, hj3, hj4, rfl⟩
  have HI := Lib.hid (inv2_start hj3 hj4)
  rw [HL.out] at hj2
  clear hj3 hj4
  go_wp2_with (fail)
  go_loopw [5, 6] (fun v i wr => ∃ (p : Nat) (acc : List Tok), p ≤ s.size ∧ i = .int .i64 (p : Int) ∧ wr.ownsRow w.heap.size 34 4 v acc.length (tfl acc) ∧ Below w.heap.size w wr ∧ Inv2 s.data.toList p acc) (fun _ i _ => s.size - (intOf i).toNat)
  case atStart => exact ⟨j0, [], hj2, rfl, World.ownsRow_nil _ _ _ _, Below.refl _ _, HI.out⟩
  case round =>
    clear HI hj2
    obtain ⟨p, acc, hp, rfl, hown, hb, hI⟩ := hrel
    have hal : acc.length ≤ 2000 := by have := hI.2.1; omega
    have HI := Lib.hid hI
    clear hI
    by_cases hlt : p < s.size
    · have hlz : (p : Int) < (s.size : Int) := by omega
      have HPL := Lib.hid (show p < s.data.toList.length by rw [HL.out]; exact hlt)
      go_wp2_with (fail)
      go_loop [7] (fun v => ∃ m : Nat, p ≤ m ∧ m ≤ s.size ∧ v = .int .i64 (m : Int) ∧ AllIn wdB s.data.toList p m) (fun v => s.size - (intOf v).toNat)
      case atStart => exact ⟨p, Nat.le_refl _, hp, rfl, AllIn.nil _ _ _⟩
      case round =>
        obtain ⟨m, hm1, hm2, rfl, ha⟩ := hrel
        have HA := Lib.hid ha
        clear ha
        by_cases hgo : ∃ h : m < s.size, wdB s[m] = true
        · obtain ⟨hlm, hwm⟩ := hgo
          have hlmz : (m : Int) < (s.size : Int) := by omega
          have HN := Lib.hid (HA.out.snoc (fun _ => by simpa [ByteArray.getElem_eq_getElem_data] using hwm))
          go_wp2_with (go_at_call 28; refine (rpart_any _ _).mono ?_; rintro e w' ⟨rfl, rfl⟩)
          go_round
          case rel => exact ⟨m + 1, by omega, by omega, by go_num, HN.out⟩
          case measure => simp [intOf]; omega
        · have HEnd := Lib.hid (show ∀ h : m < s.data.toList.length, wdB s.data.toList[m] = false from fun h => by
            have hlm : m < s.size := by rw [← HL.out]; exact h
            cases hwm : wdB s[m]
            · simpa [ByteArray.getElem_eq_getElem_data] using hwm
            · exact absurd ⟨hlm, hwm⟩ hgo)
          obtain ⟨x, hx⟩ : ∃ x, x = s.extract p m := ⟨_, rfl⟩
          have hsl : ∀ w', (Instr.slice 9 (.string s) (some (.int .i64 (p : Int))) (some (.int .i64 (m : Int))) none).run Tryd.prog w' = .ok (.string x) w' := by
            rw [hx]; exact slice_lay s p m (m : Int) rfl hm1 hm2
          have HX := Lib.hid (show x.data.toList = sub s.data.toList p m by rw [hx]; exact ext_sub s p m)
          have hxs : x.size ≤ 281474976710656 := by
            have : x.data.toList.length ≤ s.size := by rw [HX.out]; unfold sub; simp; omega
            simp at this; omega
          clear hx
          have hex : (¬ m < s.size) ∨ (∃ h : m < s.size, wdB s[m] = false) := by
            by_cases hlm : m < s.size
            · right
              cases hwm : wdB s[m]
              · exact ⟨hlm, hwm⟩
              · exact absurd ⟨hlm, hwm⟩ hgo
            · exact .inl hlm
          clear hgo
          cases hwp : wdB (s.data.toList.getD p 0)
          · have hmp := (nonword HPL.out hwp HA.out hm1).symm
            subst hmp
            have HXE := Lib.hid (show rwK x.data.toList = 0 by rw [HX.out]; unfold sub; rw [Nat.sub_self, List.take_zero]; exact rw_nil)
            have hee : ((p : Int) == (p : Int)) = true := beq_iff_eq.2 rfl
            obtain ⟨y, hy⟩ : ∃ y, y = s.extract p s.size := ⟨_, rfl⟩
            have hslf := slice_from s p hp
            rw [← hy] at hslf
            have HY := Lib.hid (show y.data.toList = s.data.toList.drop p by rw [hy, ext_sub, ← HL.out, sub_end])
            have HWP := Lib.hid hwp
            clear hy hwp
            rcases hex with hlm | ⟨hlm, hwm⟩
            · exact absurd hlt hlm
            go_upto_region 9 with (go_at_call 28; refine (rpart_any _ _).mono ?_; rintro e w' ⟨rfl, rfl⟩)
            go_wp2_with (go_at_call 29; refine (rword_any x p _ hxs).mono ?_)
            rintro e w2 ⟨ht, hb2⟩
            rcases ht with ⟨_, rfl⟩ | ⟨hk, rfl⟩
            rotate_left
            · exact absurd HXE.out hk
            go_wp2_with (go_at_call 30; refine (rsign_any y _).mono ?_)
            rintro e w3 ⟨z, rfl, hR, hb3⟩
            rw [HY.out, drop_at HPL.out] at hR
            have hsg := sg_pc HWP.out hR
            rw [← drop_at HPL.out] at hsg
            have hbb2 := bt hb hb2
            have hb23 := bt (heap1 w2 _) hb3
            have hz : w2.heap.size < w3.heap.size := by have := hb3.size; simp at this; omega
            obtain ⟨hc, hf⟩ : (∀ o, w3.cell? ⟨w2.heap.size, o, none⟩ = _) ∧ (∀ o, w3.frozen? ⟨w2.heap.size, o, none⟩ = _) := ⟨fun o => hb3.cell (p := ⟨w2.heap.size, o, none⟩) (by simp), fun o => hb3.frozen (p := ⟨w2.heap.size, o, none⟩) (by simp)⟩
            have HOW := Lib.hid (own_below hown hb2)
            have HB := Lib.hid hbb2
            clear hR hb3 hb2 hown hb hsl hslf
            rcases hsg with ⟨s1, rfl⟩ | ⟨s1, s2, s3, s4⟩
            · have HBAD := Lib.hid (inv2_bad HI.out HPL.out s1)
              have hq : (bs []).toList.isEmpty = true := by rw [bs_empty]; rfl
              clear s1
              go_wp2
              refine bodyPost_ret (v := .tuple #[.slice none 0 0, .int .i64 (p : Int), .int .i64 2]) (by simp [results, Tryd.results12, go_sem]) rfl (cut_bad ?_ (by rw [cutR_0]; exact HBAD.out))
              exact bt HB.out ((((hb23.setCell (Nat.le_refl _) _).setCell (Nat.le_refl _) _).setCell (Nat.le_refl _) _).setCell (Nat.le_refl _) _)
            · have HTK := Lib.hid (show tokK (pc (s.data.toList.drop p)) ≠ 0 by rw [← s1, s3]; decide)
              have HT := Lib.hid (show tcv (oneT p (pc (s.data.toList.drop p))) = [.int .i64 3, .int .i64 0, .int .i64 (p : Int), .string (bs z)] by
                unfold tcv oneT; rw [← s1, s3, s4]; rfl)
              have HG5 := Lib.hid (show p + z.length = p + (pc (s.data.toList.drop p)).length by rw [s1])
              have hzl : p + z.length ≤ s.size := by
                have h1 := pc_le (s.data.toList.getD p 0) (s.data.toList.drop (p + 1))
                rw [← drop_at HPL.out, ← s1, List.length_drop, HL.out] at h1
                omega
              have hz1' : 1 ≤ z.length := by
                cases z with
                | nil => exact absurd rfl s2
                | cons _ _ => simp
              have hq : (bs z).toList.isEmpty = false := by
                rw [bs_empty]
                cases z with
                | nil => exact absurd rfl s2
                | cons _ _ => rfl
              have hzs : (bs z).size = z.length := bs_size z
              clear s1 s2 s3 s4
              obtain ⟨X, hX⟩ : ∃ X, X = bs z := ⟨_, rfl⟩
              rw [← hX] at hq hzs ⊢
              rw [← hX] at HT
              clear hX
              obtain ⟨W3, hW3⟩ : ∃ W, W = (((w3.setCell ⟨w2.heap.size, 0, none⟩ (.int .i64 3)).setCell ⟨w2.heap.size, 1, none⟩ (.int .i64 0)).setCell ⟨w2.heap.size, 2, none⟩ (.int .i64 (p : Int))).setCell ⟨w2.heap.size, 3, none⟩ (.string X) := ⟨_, rfl⟩
              have hbW : Below w2.heap.size w2 W3 := by
                rw [hW3]; exact (((hb23.setCell (Nat.le_refl _) _).setCell (Nat.le_refl _) _).setCell (Nat.le_refl _) _).setCell (Nat.le_refl _) _
              have d0 : W3.cell? ⟨w2.heap.size, 0, none⟩ = some (.int .i64 3) := by rw [hW3]; simp [go_sem, hc]
              have d1 : W3.cell? ⟨w2.heap.size, 1, none⟩ = some (.int .i64 0) := by rw [hW3]; simp [go_sem, hc]
              have d2 : W3.cell? ⟨w2.heap.size, 2, none⟩ = some (.int .i64 (p : Int)) := by rw [hW3]; simp [go_sem, hc]
              have d3 : W3.cell? ⟨w2.heap.size, 3, none⟩ = some (.string X) := by rw [hW3]; simp [go_sem, hc]
              have hown2 := own_below HOW.out hbW
              have hbb := bt HB.out hbW
              have HW3 := Lib.hid hW3
              clear hW3
              go_upto_region 17 with (fail)
              rw [← HW3.out]
              clear HW3 hc hf hb23 hbW HOW HB hz
              go_wp2_with (first
                | (at_builtin; refine wpList_append_own _ rfl _ _ 23 rfl w.heap.size 34 i0 (.agg #[.int .i64 0, .int .i64 0, .int .i64 0, .string ⟨#[]⟩]) 4 40 Tryd.underlying23 hi hz0 hz1 hz2 rfl (by decide) _ _ _ rfl (hown2.alloc _) ⟨W3.heap.size, 0, none⟩ 1 1 [.int .i64 3, .int .i64 0, .int .i64 (p : Int), .string X] rfl rfl ?_ ?_ ?_ ?_ ?_ ?_))
              · intro j v hj
                match j, hj with
                | 0, hj => simp at hj; subst hj; simp [Addr.add]
                | 1, hj => simp at hj; subst hj; simp [Addr.add]
                | 2, hj => simp at hj; subst hj; simp [Addr.add]
                | 3, hj => simp at hj; subst hj; simp [Addr.add]
              · intro v hv; simp at hv; rcases hv with rfl | rfl | rfl | rfl <;> rfl
              · unfold maxLen; omega
              · omega
              · have := hbb.size; simp; omega
              intro v' w4 hown4 hgrow4 _
              have hb4 : Below w.heap.size w w4 := (hbb.alloc hbb.size _).grown hgrow4 (by have := hbb.size; simp; omega) (fun q hq => (hown2.lt q hq).1)
              have hown5 : w4.ownsRow w.heap.size 34 4 v' (acc ++ [oneT p (pc (s.data.toList.drop p))]).length (tfl (acc ++ [oneT p (pc (s.data.toList.drop p))])) := by
                rw [tfl_app, List.length_append, show tfl [oneT p (pc (s.data.toList.drop p))] = tcv (oneT p (pc (s.data.toList.drop p))) from rfl, HT.out]; exact hown4
              clear d0 d1 d2 d3
              clear hown4 hgrow4 hown2 hbb HT
              go_wp2_with (go_at_call 27; refine (rskip_at s (p + z.length) _ _ (by omega) hzl hsm).mono ?_)
              rintro e w5 ⟨j, rfl, hmj, hj2, hj3, hj4, rfl⟩
              have HN := Lib.hid (inv2_tok HI.out HPL.out HTK.out HG5.out hj3 hmj hj4)
              rw [HL.out] at hj2
              clear hj3 hj4
              go_wp2
              go_roundw
              case rel => exact ⟨j, _, hj2, rfl, hown5, hb4, HN.out⟩
              case measure => simp [intOf]; omega
          · obtain ⟨g1, g2, g3, g4, g5⟩ := word_piece HPL.out hwp HA.out hm1 (by rw [HL.out]; exact hm2) HEnd.out
            have HG2 := Lib.hid g2
            have HG5 := Lib.hid g5
            have HRW := Lib.hid (rw_tok g4 g3)
            have hne : ((m : Int) == (p : Int)) = false := beq_eq_false_iff_ne.2 (by omega)
            clear g2 g3 g4 g5 hwp
            by_cases hk : rwK x.data.toList = 0
            · have HK := Lib.hid hk
              clear hk
              rcases hex with hlm | ⟨hlm, hwm⟩
              all_goals
                first
                | have hlmz : ¬ (m : Int) < (s.size : Int) := by omega
                | skip
                go_upto_region 9 with (go_at_call 28; refine (rpart_any _ _).mono ?_; rintro e w' ⟨rfl, rfl⟩)
                go_wp2_with (go_at_call 29; refine (rword_any x p _ hxs).mono ?_)
                rintro e w2 ⟨ht, hb2⟩
                rcases ht with ⟨_, rfl⟩ | ⟨hk, rfl⟩
                · go_wp2
                  refine bodyPost_ret (v := .tuple #[.slice none 0 0, .int .i64 (p : Int), .int .i64 2]) (by simp [results, Tryd.results12, go_sem]) rfl (cut_bad ((bt hb hb2).alloc (by have := (bt hb hb2).size; omega) _) ?_)
                  rw [cutR_0]
                  exact inv2_bad HI.out HPL.out (by rw [← HG2.out, ← (HRW.out).1, ← HX.out]; exact HK.out)
                · exact absurd HK.out hk
            · have HK := Lib.hid hk
              clear hk
              rcases hex with hlm | ⟨hlm, hwm⟩
              all_goals
                first
                | have hlmz : ¬ (m : Int) < (s.size : Int) := by omega
                | skip
                go_upto_region 9 with (go_at_call 28; refine (rpart_any _ _).mono ?_; rintro e w' ⟨rfl, rfl⟩)
                go_wp2_with (go_at_call 29; refine (rword_any x p _ hxs).mono ?_)
                rintro e w2 ⟨ht, hb2⟩
                rcases ht with ⟨hk, rfl⟩ | ⟨_, rfl⟩
                · exact absurd hk HK.out
                have hown2 := own_below hown hb2
                have hbb := bt hb hb2
                have HTK := Lib.hid (show tokK (pc (s.data.toList.drop p)) ≠ 0 by rw [← HG2.out, ← (HRW.out).1, ← HX.out]; exact HK.out)
                have HT := Lib.hid (show tcv (oneT p (pc (s.data.toList.drop p))) = [.int .i64 (rwK x.data.toList : Int), .int .i64 (rwN x.data.toList), .int .i64 (p : Int), .string x] by
                  unfold tcv oneT; rw [← HG2.out, ← (HRW.out).1, ← (HRW.out).2, ← HX.out, bs_of])
                clear hsl hb2 hown hb
                generalize rwK x.data.toList = kk at *
                generalize rwN x.data.toList = nn at *
                go_wp2_with (first
                  | (at_builtin; refine wpList_append_own _ rfl _ _ 23 rfl w.heap.size 34 i0 (.agg #[.int .i64 0, .int .i64 0, .int .i64 0, .string ⟨#[]⟩]) 4 40 Tryd.underlying23 hi hz0 hz1 hz2 rfl (by decide) _ _ _ rfl ((hown2.alloc _).alloc _) ⟨w2.heap.size + 1, 0, none⟩ 1 1 [.int .i64 (kk : Int), .int .i64 nn, .int .i64 (p : Int), .string x] rfl rfl ?_ ?_ ?_ ?_ ?_ ?_))
                · intro j v hj
                  match j, hj with
                  | 0, hj => simp at hj; subst hj; simp [Addr.add]
                  | 1, hj => simp at hj; subst hj; simp [Addr.add]
                  | 2, hj => simp at hj; subst hj; simp [Addr.add]
                  | 3, hj => simp at hj; subst hj; simp [Addr.add]
                · intro v hv; simp at hv; rcases hv with rfl | rfl | rfl | rfl <;> rfl
                · unfold maxLen; omega
                · omega
                · have := hbb.size; simp; omega
                intro v' w4 hown4 hgrow4 _
                have hb4 : Below w.heap.size w w4 := ((hbb.alloc hbb.size _).alloc (by have := hbb.size; simp; omega) _).grown hgrow4 (by have := hbb.size; simp; omega) (fun q hq => (hown2.lt q hq).1)
                have hown5 : w4.ownsRow w.heap.size 34 4 v' (acc ++ [oneT p (pc (s.data.toList.drop p))]).length (tfl (acc ++ [oneT p (pc (s.data.toList.drop p))])) := by
                  rw [tfl_app, List.length_append, show tfl [oneT p (pc (s.data.toList.drop p))] = tcv (oneT p (pc (s.data.toList.drop p))) from rfl, HT.out]; exact hown4
                clear hown4 hgrow4 hown2 hbb HT
                go_wp2_with (go_at_call 27; refine (rskip_at s m _ _ (by omega) hm2 hsm).mono ?_)
                rintro e w5 ⟨j, rfl, hmj, hj2, hj3, hj4, rfl⟩
                have HN := Lib.hid (inv2_tok HI.out HPL.out HTK.out HG5.out hj3 hmj hj4)
                rw [HL.out] at hj2
                clear hj3 hj4
                go_wp2
                go_roundw
                case rel => exact ⟨j, _, hj2, rfl, hown5, hb4, HN.out⟩
                case measure => simp [intOf]; omega
    · have hlz : ¬ (p : Int) < (s.size : Int) := by omega
      have HR := Lib.hid (inv2_end HI.out (by rw [HL.out]; exact hlt) (by rw [HL.out]; exact hp))
      have HT := Lib.hid (show tcv (endT s.data.toList.length) = [.int .i64 5, .int .i64 0, .int .i64 (s.size : Int), .string ⟨#[]⟩] by unfold tcv endT; rw [HL.out]; rfl)
      go_wp2_with (first
        | (at_builtin; refine wpList_append_own _ rfl _ _ 23 rfl w.heap.size 34 i0 (.agg #[.int .i64 0, .int .i64 0, .int .i64 0, .string ⟨#[]⟩]) 4 40 Tryd.underlying23 hi hz0 hz1 hz2 rfl (by decide) _ _ _ rfl (hown.alloc _) ⟨wr.heap.size, 0, none⟩ 1 1 [.int .i64 5, .int .i64 0, .int .i64 (s.size : Int), .string ⟨#[]⟩] rfl rfl ?d1 ?d2 ?d3 ?d4 ?d5 ?_))
      case d2 => exact ⟨rfl, rfl, rfl, rfl⟩
      case d3 => unfold maxLen; omega
      case d4 => omega
      case d5 => have := hb.size; simp; omega
      intro v' w4 hown4 hgrow4 _
      have hb4 : Below w.heap.size w w4 := (hb.alloc hb.size _).grown hgrow4 (by have := hb.size; simp; omega) (fun q hq => (hown.lt q hq).1)
      have hown5 : w4.ownsRow w.heap.size 34 4 v' (acc ++ [endT s.data.toList.length]).length (tfl (acc ++ [endT s.data.toList.length])) := by
        rw [tfl_app, List.length_append, show tfl [endT s.data.toList.length] = tcv (endT s.data.toList.length) from rfl, HT.out]; exact hown4
      clear hown4 hgrow4 hown hb HT
      go_wp2
      exact bodyPost_ret (v := .tuple #[v', .int .i64 0, .int .i64 0]) (by simp [results, Tryd.results12, go_sem]) rfl (cut_ok hb4 (by rw [cutR_0]; exact HR.out) hown5)
end Go.Proofs.YtahmadelokofbaaDoor
