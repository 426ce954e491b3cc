/- PROVED here: the contract of the document's sign. No condition but those in each theorem's own head. -/
import Derived.Test.YtahmadelokofbaaDoorRc
import Derived.Test.YtahmadelokofbaaDoorY
namespace Go.Proofs.YtahmadelokofbaaDoor
open Go Go.RowKit

def sgL : List (List UInt8) := [[61, 61], [33, 61], [60, 61], [62, 61], [38, 38], [124, 124], [40], [41], [123], [125], [91], [93], [44], [59], [61], [60], [62], [43], [45], [42], [47], [37], [33], [38]]
def sgC : Array Value := #[.string ⟨#[61, 61]⟩, .string ⟨#[33, 61]⟩, .string ⟨#[60, 61]⟩, .string ⟨#[62, 61]⟩, .string ⟨#[38, 38]⟩, .string ⟨#[124, 124]⟩, .string ⟨#[40]⟩, .string ⟨#[41]⟩, .string ⟨#[123]⟩, .string ⟨#[125]⟩, .string ⟨#[91]⟩, .string ⟨#[93]⟩, .string ⟨#[44]⟩, .string ⟨#[59]⟩, .string ⟨#[61]⟩, .string ⟨#[60]⟩, .string ⟨#[62]⟩, .string ⟨#[43]⟩, .string ⟨#[45]⟩, .string ⟨#[42]⟩, .string ⟨#[47]⟩, .string ⟨#[37]⟩, .string ⟨#[33]⟩, .string ⟨#[38]⟩]
theorem sgC_sv : sgC.toList = sv sgL := by kernel_rfl
theorem sg_mem {x : List UInt8} (h : x ∈ sgL) : signB x = true := by
  have : (sgL.all signB) = true := by decide
  exact List.all_eq_true.1 this x h
theorem mem_sg {x : List UInt8} (h : signB x = true) : x ∈ sgL := by
  simp only [signB, Bool.or_eq_true, beq_iff_eq] at h
  rcases h with ((((((((((((((((((((((h | h) | h) | h) | h) | h) | h) | h) | h) | h) | h) | h) | h) | h) | h) | h) | h) | h) | h) | h) | h) | h) | h) | h <;> subst h <;> decide
theorem sg_two : ∀ j (h : j < sgL.length), sgL[j].length = 2 → j < 6 := by
  have : ((List.range 24).all fun j => if (sgL.getD j []).length = 2 then decide (j < 6) else true) = true := by decide
  intro j h h2
  have hj := List.all_eq_true.1 this j (List.mem_range.2 h)
  rw [List.getD_eq_getElem?_getD, List.getElem?_eq_getElem h, Option.getD_some, if_pos h2] at hj
  exact of_decide_eq_true hj
theorem sg_one : ∀ j (h : j < sgL.length), sgL[j].length = 1 → 6 ≤ j := by
  have : ((List.range 24).all fun j => if (sgL.getD j []).length = 1 then decide (6 ≤ j) else true) = true := by decide
  intro j h h2
  have hj := List.all_eq_true.1 this j (List.mem_range.2 h)
  rw [List.getD_eq_getElem?_getD, List.getElem?_eq_getElem h, Option.getD_some, if_pos h2] at hj
  exact of_decide_eq_true hj
/-- a text begins with another one -/
def Pf (l x : List UInt8) : Prop := x.length ≤ l.length ∧ l.take x.length = x
def NoPf (l : List UInt8) (k : Nat) : Prop := ∀ j (h : j < sgL.length), j < k → ¬ Pf l sgL[j]
def SgRes (l x : List UInt8) : Prop := (∃ k, ∃ h : k < sgL.length, x = sgL[k] ∧ Pf l x ∧ NoPf l k) ∨ (x = [] ∧ NoPf l 24)
def SgPost (l : List UInt8) (w : World) (e : Ending) (w' : World) : Prop := ∃ x, e = .returned (.string (bs x)) ∧ SgRes l x ∧ Below w.heap.size w w'
set_option maxRecDepth 100000 in
set_option maxHeartbeats 1500000 in
theorem rsign_any (s : ByteArray) (w : World) : Calls Tryd.prog 30 #[.string s] w (SgPost s.data.toList w) := by
  have HL := Lib.hid (show s.data.toList.length = s.size by simp)
  go_enter Tryd.func30, Tryd.ntmps30
  go_upto_region 2 with (fail)
  refine gen_world (fun w' => SB w' w.heap.size sgL ∧ Below w.heap.size w w') ⟨sb_alloc w sgC sgL sgC_sv, heap1 w _⟩ ?_
  rintro w1 ⟨hS, hb⟩
  have HS := Lib.hid hS
  clear hS
  go_wp2
  go_loopw [4] (fun i wr => ∃ k m : Nat, k ≤ 24 ∧ i = .int .i64 (k : Int) ∧ wr = w1.drewN m ∧ NoPf s.data.toList k) (fun i _ => 24 - (intOf i).toNat)
  case atStart => exact ⟨0, 0, by omega, rfl, rfl, fun j _ h => by omega⟩
  case round =>
    obtain ⟨k, q, hk, rfl, rfl, hN⟩ := hrel
    by_cases hlt : k < 24
    · have hlz : (k : Int) < 24 := by omega
      have hkl : k < sgL.length := hlt
      have hc := HS.out k hkl
      obtain ⟨x, hx⟩ : ∃ x, x = sgL[k] := ⟨_, rfl⟩
      rw [← hx] at hc
      obtain ⟨X, hX⟩ : ∃ X, X = bs x := ⟨_, rfl⟩
      rw [← hX] at hc
      have HXs := Lib.hid (show X.size = x.length by rw [hX, bs_size])
      have HXX := Lib.hid hX
      have HX := Lib.hid hx
      have hX2 : X.size ≤ 2 := by
        rw [HXs.out]
        have := signB_len (sg_mem (x := x) (by rw [hx]; exact List.getElem_mem _))
        omega
      by_cases hge : X.size ≤ s.size
      · have hz : (X.size : Int) ≤ (s.size : Int) := by omega
        have hzd : decide ((X.size : Int) ≤ (s.size : Int)) = true := decide_eq_true hz
        obtain ⟨y, hy⟩ : ∃ y, y = s.extract 0 X.size := ⟨_, rfl⟩
        have hsl : ∀ w', (Instr.slice 9 (.string s) none (some (.int .i64 (X.size : Int))) none).run Tryd.prog w' = .ok (.string y) w' := by
          rw [hy]; exact slice_to s X.size hge
        have HY := Lib.hid (show y.data.toList = s.data.toList.take x.length by rw [hy, ext0, HXs.out])
        by_cases he : s.data.toList.take x.length = x
        · have hq : (y.toList == X.toList) = true := by
            rw [ByteArray.toList_eq, ByteArray.toList_eq, HY.out, HXX.out, bs_list]; exact beq_iff_eq.2 he
          have HR := Lib.hid (show SgRes s.data.toList x from .inl ⟨k, hkl, hx, ⟨by rw [HL.out, ← HXs.out]; exact hge, he⟩, hN⟩)
          clear he hx hX hy
          go_wp2_with (fail)
          go_quiet (fail)
          go_wp2
          go_ret
          exact ⟨x, by rw [← HXX.out]; rfl, HR.out, below_drewN hb _⟩
        · have hq : (y.toList == X.toList) = false := by
            rw [ByteArray.toList_eq, ByteArray.toList_eq, HY.out, HXX.out, bs_list]; exact beq_eq_false_iff_ne.2 he
          have HN := Lib.hid (show NoPf s.data.toList (k + 1) from fun j h h2 => by
            by_cases e : j = k
            · subst e; rw [← hx]; exact fun hp => he hp.2
            · exact hN j h (by omega))
          clear he hx hX hy
          go_wp2_with (fail)
          go_quiet (fail)
          go_wp2
          go_roundw
          case rel => exact ⟨k + 1, q + nq, by omega, by go_num, rfl, HN.out⟩
          case measure => simp [intOf]; omega
      · have hz : ¬ (X.size : Int) ≤ (s.size : Int) := by omega
        have hzd : decide ((X.size : Int) ≤ (s.size : Int)) = false := decide_eq_false hz
        have HN := Lib.hid (show NoPf s.data.toList (k + 1) from fun j h h2 => by
          by_cases e : j = k
          · subst e; rw [← hx]; exact fun hp => hge (by rw [HXs.out, ← HL.out]; exact hp.1)
          · exact hN j h (by omega))
        clear hx hX
        go_wp2_with (fail)
        go_quiet (fail)
        go_wp2
        go_roundw
        case rel => exact ⟨k + 1, q + nq, by omega, by go_num, rfl, HN.out⟩
        case measure => simp [intOf]; omega
    · have hlz : ¬ (k : Int) < 24 := by omega
      obtain rfl : k = 24 := by omega
      have HR := Lib.hid (show SgRes s.data.toList [] from .inr ⟨rfl, hN⟩)
      go_wp2
      go_ret
      exact ⟨[], rfl, HR.out, below_drewN hb _⟩
theorem nowd_kept {c : UInt8} {t : List UInt8} (h : wdB c = false) : keptB (c :: t) = false ∧ idB (c :: t) = false := by
  have hw : allW (c :: t) = false := by unfold allW; simp [h]
  constructor
  · cases hk : keptB (c :: t)
    · rfl
    · have := (kept_word hk).2; rw [hw] at this; cases this
  · unfold idB; rw [hw]; simp
theorem nowd_num {c : UInt8} (h : wdB c = false) (h2 : signB [c] = false) : numOk [c] = false := by
  have hd : dgB c = false := by
    cases hd : dgB c
    · rfl
    · unfold wdB at h; rw [hd] at h; simp at h
  have e : ∀ n : Nat, n < 256 → c.toNat = n → c = UInt8.ofNat n := fun n hn hc => by
    rw [← UInt8.toNat_inj, hc]; simp; omega
  have h43 : c.toNat ≠ 43 := fun hc => by
    have := e 43 (by omega) hc; subst this; revert h2; decide
  have h45 : c.toNat ≠ 45 := fun hc => by
    have := e 45 (by omega) hc; subst this; revert h2; decide
  unfold numOk
  rw [num_rnum h43 h45, show rnum [c] = none from if_neg (fun hh => by
    have := hh.1
    rw [allD_cons, hd] at this; cases this)]
  rfl
theorem tok_sign {x : List UInt8} {c : UInt8} {t : List UInt8} (hx : x = c :: t) (h : wdB c = false) (hs : signB x = true) : tokK x = 3 ∧ tokN x = 0 := by
  subst hx
  obtain ⟨h1, h2⟩ := nowd_kept (t := t) h
  have : tokK (c :: t) = 3 := by unfold tokK; rw [h1, h2, hs]; rfl
  exact ⟨this, by unfold tokN; rw [this]; rfl⟩
/-- what the document's sign finds is the piece that is an operator, or there is none -/
theorem sg_pc {c : UInt8} {t x : List UInt8} (hw : wdB c = false) (h : SgRes (c :: t) x) : (tokK (pc (c :: t)) = 0 ∧ x = []) ∨ (x = pc (c :: t) ∧ x ≠ [] ∧ tokK x = 3 ∧ tokN x = 0) := by
  rcases h with ⟨k, hk, e, hp, hN⟩ | ⟨e, hN⟩
  · right
    have hs := sg_mem (x := x) (by rw [e]; exact List.getElem_mem _)
    obtain ⟨hp1, hp2⟩ := hp
    rcases signB_len hs with h1 | h1
    · rw [h1] at hp2
      have hx : x = [c] := by rw [← hp2]; rfl
      have hpc : pc (c :: t) = [c] := by
        cases t with
        | nil => simp only [pc, hw]; simp
        | cons d t =>
          simp only [pc, hw]
          cases h2 : signB [c, d]
          · simp
          · exfalso
            obtain ⟨j, hj, ej⟩ := List.getElem_of_mem (mem_sg h2)
            have j6 := sg_two j hj (by rw [ej]; rfl)
            have k6 := sg_one k hk (by rw [← e]; exact h1)
            exact hN j hj (by omega) (by rw [ej]; exact ⟨by simp, rfl⟩)
      obtain ⟨a, b⟩ := tok_sign (x := x) (c := c) (t := []) hx hw hs
      exact ⟨by rw [hpc, hx], by rw [hx]; simp, a, b⟩
    · cases t with
      | nil => simp at hp1; omega
      | cons d t =>
        rw [h1] at hp2
        have hx : x = [c, d] := by rw [← hp2]; rfl
        have hs2 : signB [c, d] = true := by rw [← hx]; exact hs
        have hpc : pc (c :: d :: t) = [c, d] := by simp only [pc, hw, hs2]; simp
        obtain ⟨a, b⟩ := tok_sign (x := x) (c := c) (t := [d]) hx hw hs
        exact ⟨by rw [hpc, hx], by rw [hx]; simp, a, b⟩
  · left
    refine ⟨?_, e⟩
    have h1 : signB [c] = false := by
      cases h1 : signB [c]
      · rfl
      · exfalso
        obtain ⟨j, hj, ej⟩ := List.getElem_of_mem (mem_sg h1)
        exact hN j hj hj (by rw [ej]; exact ⟨by simp, rfl⟩)
    have hpc : pc (c :: t) = [c] := by
      cases t with
      | nil => simp only [pc, hw]; simp
      | cons d t =>
        simp only [pc, hw]
        cases h2 : signB [c, d]
        · simp
        · exfalso
          obtain ⟨j, hj, ej⟩ := List.getElem_of_mem (mem_sg h2)
          exact hN j hj hj (by rw [ej]; exact ⟨by simp, rfl⟩)
    rw [hpc]
    obtain ⟨a, b⟩ := nowd_kept (t := []) hw
    unfold tokK
    rw [a, b, h1, nowd_num hw h1]; rfl
end Go.Proofs.YtahmadelokofbaaDoor
