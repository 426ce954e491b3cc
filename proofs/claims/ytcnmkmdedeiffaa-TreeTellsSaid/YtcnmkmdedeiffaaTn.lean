/- PROVED here: the contracts of the document's Ident and of what it calls. No condition but those in each theorem's own head. -/
import Derived.Test.YtcnmkmdedeiffaaTm
namespace Go.Proofs.Ytcnmkmdedeiffaa
open Go Go.RowKit

def bs (l : List UInt8) : ByteArray := ⟨l.toArray⟩
theorem bs_list (l : List UInt8) : (bs l).data.toList = l := by simp [bs]
def sv (L : List (List UInt8)) : List Value := L.map fun x => Value.string (bs x)

theorem rdigit_any (c : UInt8) (w : World) : Calls Try.prog 62 #[.int .u8 (c.toNat : Int)] w fun e w' => e = .returned (.bool (dgB c)) ∧ w = w' := by
  by_cases h1 : 48 ≤ (c.toNat : Int)
  · have hb : dgB c = decide ((c.toNat : Int) ≤ 57) := by unfold dgB; rw [Bool.eq_iff_iff]; simp; omega
    rw [hb]; clear hb
    by_cases h2 : (c.toNat : Int) ≤ 57
    · rw [decide_eq_true h2]
      go_enter Try.func62, Try.ntmps62
      go_wp2
      go_ret
      simp
    · rw [decide_eq_false h2]
      go_enter Try.func62, Try.ntmps62
      go_wp2
      go_ret
      simp
  · have hb : dgB c = false := by unfold dgB; rw [decide_eq_false (by omega)]; rfl
    rw [hb]; clear hb
    go_enter Try.func62, Try.ntmps62
    go_wp2
    go_ret
    simp
theorem rpart_any (c : UInt8) (w : World) : Calls Try.prog 60 #[.int .u8 (c.toNat : Int)] w fun e w' => e = .returned (.bool (wdB c)) ∧ w = w' := by
  cases hd : dgB c
  · rcases five c with h | h | h | h | h
    · have hb : wdB c = true := by unfold wdB; simp; omega
      rw [hb]; clear hb
      obtain ⟨h1, h2⟩ := h
      go_enter Try.func60, Try.ntmps60
      go_wp2_with (go_at_call 62; refine (rdigit_any _ _).mono ?_; rintro e w' ⟨rfl, rfl⟩)
      go_ret
      simp
    · have hb : wdB c = false := by unfold wdB; rw [hd]; simp; omega
      have q : ((c.toNat : Int) == 95) = false := by simp; omega
      rw [hb]; clear hb
      have h1 : 97 ≤ (c.toNat : Int) := by omega
      have h2 : ¬ (c.toNat : Int) ≤ 122 := by omega
      have h3 : 65 ≤ (c.toNat : Int) := by omega
      have h4 : ¬ (c.toNat : Int) ≤ 90 := by omega
      go_enter Try.func60, Try.ntmps60
      go_wp2_with (go_at_call 62; refine (rdigit_any _ _).mono ?_; rintro e w' ⟨rfl, rfl⟩)
      go_ret
      simp
      omega
    · have hb : wdB c = true := by unfold wdB; simp; omega
      rw [hb]; clear hb
      obtain ⟨h3, h4⟩ := h
      have h1 : ¬ 97 ≤ (c.toNat : Int) := by omega
      go_enter Try.func60, Try.ntmps60
      go_wp2_with (go_at_call 62; refine (rdigit_any _ _).mono ?_; rintro e w' ⟨rfl, rfl⟩)
      go_ret
      simp
    · have hb : wdB c = false := by unfold wdB; rw [hd]; simp; omega
      rw [hb]; clear hb
      have h1 : ¬ 97 ≤ (c.toNat : Int) := by omega
      have h3 : ¬ 65 ≤ (c.toNat : Int) := by omega
      have q : ((c.toNat : Int) == 95) = false := by simp; omega
      go_enter Try.func60, Try.ntmps60
      go_wp2_with (go_at_call 62; refine (rdigit_any _ _).mono ?_; rintro e w' ⟨rfl, rfl⟩)
      go_ret
      simp
    · have hb : wdB c = ((c.toNat : Int) == 95) := by rw [Bool.eq_iff_iff]; unfold wdB; rw [hd]; simp; omega
      rw [hb]; clear hb
      have h1 : ¬ 97 ≤ (c.toNat : Int) := by omega
      have h3 : 65 ≤ (c.toNat : Int) := by omega
      have h4 : ¬ (c.toNat : Int) ≤ 90 := by omega
      generalize hq : ((c.toNat : Int) == 95) = b at *
      go_enter Try.func60, Try.ntmps60
      go_wp2_with (go_at_call 62; refine (rdigit_any _ _).mono ?_; rintro e w' ⟨rfl, rfl⟩)
      go_ret
      simp
      intro h5
      exfalso
      omega
  · have hb : wdB c = true := by unfold wdB; rw [hd]; simp
    rw [hb]; clear hb
    go_enter Try.func60, Try.ntmps60
    go_wp2_with (go_at_call 62; refine (rdigit_any _ _).mono ?_; rintro e w' ⟨rfl, rfl⟩)
    go_ret
    simp
def kwL : List (List UInt8) := [[118, 97, 114], [112, 114, 111, 99], [105, 110, 116], [98, 111, 111, 108], [97, 114, 114], [102, 117, 110], [105, 110], [111, 117, 116], [105, 102], [101, 108, 115, 101], [119, 104, 105, 108, 101], [99, 97, 108, 108], [114, 101, 116, 117, 114, 110], [116, 104, 114, 111, 119], [116, 114, 121], [99, 97, 116, 99, 104], [110, 101, 119], [108, 101, 110], [116, 114, 117, 101], [102, 97, 108, 115, 101]]
theorem kept_mem (l : List UInt8) : keptB l = true ↔ l ∈ kwL := by
  simp only [keptB, kwL, Bool.or_eq_true, beq_iff_eq, List.mem_cons, List.not_mem_nil, or_false, or_assoc]
/-- a block of texts -/
def SB (w : World) (g : Nat) (L : List (List UInt8)) : Prop := ∀ k (hk : k < L.length), w.cell? ⟨g, k, none⟩ = some (.string (bs L[k]))
theorem sb_alloc (w : World) (cs : Array Value) (L : List (List UInt8)) (h : cs.toList = sv L) : SB (w.alloc (.cells cs 9)) w.heap.size L := fun k hk => by
  rw [cell_of_row (w.alloc (.cells cs 9)) w.heap.size k cs 9 (0, 0) (World.alloc_heap_new w _), ← Array.getElem?_toList, h]
  unfold sv
  rw [List.getElem?_map, List.getElem?_eq_getElem hk]; rfl
def kwC : Array Value := #[.string ⟨#[118, 97, 114]⟩, .string ⟨#[112, 114, 111, 99]⟩, .string ⟨#[105, 110, 116]⟩, .string ⟨#[98, 111, 111, 108]⟩, .string ⟨#[97, 114, 114]⟩, .string ⟨#[102, 117, 110]⟩, .string ⟨#[105, 110]⟩, .string ⟨#[111, 117, 116]⟩, .string ⟨#[105, 102]⟩, .string ⟨#[101, 108, 115, 101]⟩, .string ⟨#[119, 104, 105, 108, 101]⟩, .string ⟨#[99, 97, 108, 108]⟩, .string ⟨#[114, 101, 116, 117, 114, 110]⟩, .string ⟨#[116, 104, 114, 111, 119]⟩, .string ⟨#[116, 114, 121]⟩, .string ⟨#[99, 97, 116, 99, 104]⟩, .string ⟨#[110, 101, 119]⟩, .string ⟨#[108, 101, 110]⟩, .string ⟨#[116, 114, 117, 101]⟩, .string ⟨#[102, 97, 108, 115, 101]⟩]
theorem kwC_sv : kwC.toList = sv kwL := by kernel_rfl
def NotTo (L : List (List UInt8)) (l : List UInt8) (k : Nat) : Prop := ∀ j (h : j < L.length), j < k → L[j] ≠ l
set_option maxRecDepth 100000 in
set_option maxHeartbeats 1500000 in
theorem rkept_any (s : ByteArray) (w : World) : Calls Try.prog 61 #[.string s] w fun e w' => e = .returned (.bool (keptB s.data.toList)) ∧ Below w.heap.size w w' := by
  go_enter Try.func61, Try.ntmps61
  go_upto_region 2 with (fail)
  refine gen_world (fun w' => SB w' w.heap.size kwL ∧ Below w.heap.size w w') ⟨sb_alloc w kwC kwL kwC_sv, heap1 w _⟩ ?_
  rintro w1 ⟨hS, hb⟩
  have HS := Lib.hid hS
  clear hS
  go_wp2
  go_loop [4] (fun i => ∃ k : Nat, k ≤ 20 ∧ i = .int .i64 (k : Int) ∧ NotTo kwL s.data.toList k) (fun i => 20 - (intOf i).toNat)
  case atStart => exact ⟨0, by omega, rfl, fun j _ h => by omega⟩
  case round =>
    obtain ⟨k, hk, rfl, hN⟩ := hrel
    by_cases hlt : k < 20
    · have hlz : (k : Int) < 20 := by omega
      have hkl : k < kwL.length := hlt
      have hc := HS.out k hkl
      obtain ⟨x, hx⟩ : ∃ x, x = kwL[k] := ⟨_, rfl⟩
      rw [← hx] at hc
      by_cases he : x = s.data.toList
      · have hq : ((bs x).toList == s.toList) = true := by rw [ByteArray.toList_eq, ByteArray.toList_eq, bs_list]; exact beq_iff_eq.2 he
        have HT := Lib.hid (show keptB s.data.toList = true by rw [kept_mem, ← he, hx]; exact List.getElem_mem _)
        clear he hx
        go_wp2
        go_ret
        exact ⟨ret_bool HT.out.symm, hb⟩
      · have hq : ((bs x).toList == s.toList) = false := by rw [ByteArray.toList_eq, ByteArray.toList_eq, bs_list]; exact beq_eq_false_iff_ne.2 he
        have HN := Lib.hid (show NotTo kwL s.data.toList (k + 1) from fun j h h2 => by
          by_cases e : j = k
          · subst e; rw [← hx]; exact he
          · exact hN j h (by omega))
        clear he hx
        go_wp2
        go_round
        case rel => exact ⟨k + 1, by omega, by go_num, HN.out⟩
        case measure => simp [intOf]; omega
    · have hlz : ¬ (k : Int) < 20 := by omega
      have HT := Lib.hid (show keptB s.data.toList = false by
        cases h : keptB s.data.toList
        · rfl
        · rw [kept_mem] at h
          obtain ⟨j, hj, e⟩ := List.getElem_of_mem h
          have hj2 : j < 20 := hj
          exact absurd e (hN j hj (by omega)))
      go_wp2
      go_ret
      exact ⟨ret_bool HT.out.symm, hb⟩
set_option maxRecDepth 100000 in
set_option maxHeartbeats 1500000 in
theorem rident_any (s : ByteArray) (w : World) (hmax : s.size ≤ 281474976710656) : Calls Try.prog 49 #[.string s] w (BPost (idB s.data.toList) w) := by
  have HL := Lib.hid (show s.data.toList.length = s.size by simp)
  go_enter Try.func49, Try.ntmps49
  go_wp2_with (fail)
  go_loop [3] (fun i => ∃ k : Nat, k ≤ s.size ∧ i = .int .i64 (k : Int) ∧ allW (s.data.toList.take k) = true) (fun i => s.size - (intOf i).toNat)
  case atStart => exact ⟨0, Nat.zero_le _, rfl, rfl⟩
  case round =>
    obtain ⟨k, hk, rfl, ha⟩ := hrel
    have HA := Lib.hid ha
    clear ha
    by_cases hlt : k < s.size
    · have hts := Lib.hid (take_snoc s k hlt)
      have hlz : (k : Int) < (s.size : Int) := by omega
      cases hw : wdB s[k]
      · have HF := Lib.hid (show idB s.data.toList = false by
          have : allW s.data.toList = false := by
            unfold allW
            rw [List.all_eq_false]
            exact ⟨s[k], by simp [ByteArray.getElem_eq_getElem_data], by simp [hw]⟩
          unfold idB; rw [this]; simp)
        go_wp2_with (go_at_call 60; refine (rpart_any _ _).mono ?_; rintro e w' ⟨rfl, rfl⟩)
        go_ret
        exact ⟨ret_bool HF.out.symm, Below.refl _ _⟩
      · go_wp2_with (go_at_call 60; refine (rpart_any _ _).mono ?_; rintro e w' ⟨rfl, rfl⟩)
        go_round
        case rel => exact ⟨k + 1, by omega, by go_num, allW_snoc hts.out HA.out hw⟩
        case measure => simp [intOf]; omega
    · have hlz : ¬ (k : Int) < (s.size : Int) := by omega
      have HW := Lib.hid (show allW s.data.toList = true by
        have := HA.out
        rwa [List.take_of_length_le (by rw [HL.out]; omega)] at this)
      clear HA
      by_cases h1 : 1 ≤ s.size
      · have hz1 : (1 : Int) ≤ (s.size : Int) := by omega
        have HH := Lib.hid (head_get s h1)
        have h0 : 0 < s.size := h1
        by_cases h2 : s.size ≤ 20
        · have hz2 : (s.size : Int) ≤ 20 := by omega
          have HF := Lib.hid (show idB s.data.toList = (!(dgB s[0]) && !(keptB s.data.toList)) by
            unfold idB; rw [HW.out, HH.out, HL.out, decide_eq_true h1, decide_eq_true h2]; simp)
          cases hd : dgB s[0]
          · cases hk : keptB s.data.toList
            · have HF2 := Lib.hid (show idB s.data.toList = true by rw [HF.out, hd, hk]; rfl)
              go_wp2_with (first | (go_at_call 61; refine (rkept_any _ _).mono ?_; rintro e w2 ⟨rfl, hb2⟩) | (go_at_call 62; refine (rdigit_any _ _).mono ?_; rintro e w' ⟨rfl, rfl⟩))
              go_ret
              exact ⟨ret_bool HF2.out.symm, hb2⟩
            · have HF2 := Lib.hid (show idB s.data.toList = false by rw [HF.out, hk]; simp)
              go_wp2_with (first | (go_at_call 61; refine (rkept_any _ _).mono ?_; rintro e w2 ⟨rfl, hb2⟩) | (go_at_call 62; refine (rdigit_any _ _).mono ?_; rintro e w' ⟨rfl, rfl⟩))
              go_ret
              exact ⟨ret_bool HF2.out.symm, hb2⟩
          · have HF2 := Lib.hid (show idB s.data.toList = false by rw [HF.out, hd]; rfl)
            go_wp2_with (first | (go_at_call 61; refine (rkept_any _ _).mono ?_; rintro e w2 ⟨rfl, hb2⟩) | (go_at_call 62; refine (rdigit_any _ _).mono ?_; rintro e w' ⟨rfl, rfl⟩))
            go_ret
            exact ⟨ret_bool HF2.out.symm, hb2⟩
        · have hz2 : ¬ (s.size : Int) ≤ 20 := by omega
          have HF2 := Lib.hid (id_false_len (l := s.data.toList) (.inr (by rw [HL.out]; omega)))
          go_wp2_with (first | (go_at_call 61; refine (rkept_any _ _).mono ?_; rintro e w2 ⟨rfl, hb2⟩) | (go_at_call 62; refine (rdigit_any _ _).mono ?_; rintro e w' ⟨rfl, rfl⟩))
          go_ret
          exact ⟨ret_bool HF2.out.symm, hb2⟩
      · have hz1 : ¬ (1 : Int) ≤ (s.size : Int) := by omega
        have HF2 := Lib.hid (id_false_len (l := s.data.toList) (.inl (by rw [HL.out]; omega)))
        go_wp2_with (first | (go_at_call 61; refine (rkept_any _ _).mono ?_; rintro e w2 ⟨rfl, hb2⟩) | (go_at_call 62; refine (rdigit_any _ _).mono ?_; rintro e w' ⟨rfl, rfl⟩))
        go_ret
        exact ⟨ret_bool HF2.out.symm, hb2⟩
end Go.Proofs.Ytcnmkmdedeiffaa
