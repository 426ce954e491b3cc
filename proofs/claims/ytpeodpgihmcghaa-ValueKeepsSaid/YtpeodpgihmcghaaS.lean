/- PROVED here: rows that are cloned, all arrays, a copy, rows compared. No condition but those in each theorem's own head. -/
import Derived.Test.YtpeodpgihmcghaaP
namespace Go.Proofs.Ytpeodpgihmcghaa
open Go Go.RowKit Go.Sort

theorem nil78_yes (w : World) : (binOp .eql 78 (.slice none 0 0) (.slice none 0 0)).run Try.prog w = .ok (.bool true) w := by kernel_rfl
theorem nil78_no (ad : Addr) (n c : Nat) (w : World) : (binOp .eql 78 (.slice (some ad) n c) (.slice none 0 0)).run Try.prog w = .ok (.bool false) w := by kernel_rfl
theorem ints_one (l : List Int) : ∀ u ∈ ints l, u.oneCell' = true := fun u hu => by
  obtain ⟨x, _, rfl⟩ := List.mem_map.1 hu
  rfl
def CloneP (base : Nat) (l : List Int) (w : World) (e : Ending) (w' : World) : Prop := ∃ x, e = .returned x ∧ w'.ownsRow base 3 1 x l.length (ints l) ∧ (∀ b, x.ownBlock = some b → w.heap.size ≤ b) ∧ Below w.heap.size w w'
set_option maxRecDepth 100000 in
set_option maxHeartbeats 1000000 in
theorem clone_any {b0 base : Nat} {w : World} {x : Value} {l : List Int} (h : w.ownsRow b0 3 1 x l.length (ints l)) (hl : l.length ≤ 262144) (hb : base ≤ w.heap.size) : Calls Try.prog 41 #[x] w (CloneP base l w) := by
  obtain ⟨i0, hi, hz0, hz1, hz2⟩ := info_parts info3
  rcases h.2 with ⟨rfl, h0⟩ | ⟨r, c, cur, rfl, _⟩
  · have hl0 : l = [] := List.eq_nil_of_length_eq_zero h0
    subst hl0
    have q := nil78_yes
    clear h hi hz0 hz1 hz2
    go_enter Try.func41, Try.ntmps41
    go_wp2
    go_ret
    exact ⟨_, rfl, World.ownsRow_nil _ _ _ _, fun b hb => by simp [Value.ownBlock] at hb, Below.refl _ _⟩
  · have q := nil78_no ⟨r, 0, none⟩ l.length c
    have hcs := (h.alloc (.cells #[] 3)).cells (g := r) rfl
    have hmk := World.ownsRow_made (base := base) (e := 3) (size := 1) w #[] 0 hb (by decide) rfl
    have HH := Lib.hid (And.intro hcs hmk)
    clear h hcs hmk
    go_enter Try.func41, Try.ntmps41
    go_wp2_with (at_builtin; refine wpList_append_own_at _ rfl _ _ 78 rfl base 3 i0 (.int .i64 0) 1 8 Try.underlying78 hi hz0 hz1 hz2 rfl (by decide) _ 0 [] rfl HH.out.2 ⟨r, 0, none⟩ l.length c (ints l) rfl (by rw [ints_len]; omega) HH.out.1 (ints_one l) (by unfold maxLen; omega) (by omega) (by simp; omega) ?_)
    intro v' w4 hown4 hgrow4 _ hat4
    have hbw : Below w.heap.size w w4 := (heap1 w (.cells #[] 3)).grown hgrow4 (by simp) (fun k hk => by simp [Value.ownBlock] at hk; omega)
    have HE := Lib.hid (And.intro hown4 (And.intro hat4 hbw))
    clear hown4 hgrow4 hat4 hbw
    go_wp2
    go_ret
    obtain ⟨h1, h2, h3⟩ := HE.out
    refine ⟨v', rfl, by simpa using h1, fun b hb2 => ?_, h3⟩
    rcases h2 with e | e
    · rw [e] at hb2; simp [Value.ownBlock] at hb2; omega
    · rw [e] at hb2; simp at hb2; omega
def nils (n : Nat) : List Value := List.replicate n (.slice none 0 0)
theorem made78 (n : Nat) : madeCells #[.slice none 0 0] n = (nils n).toArray := by
  apply Array.toList_inj.1
  rw [toList_madeCells_one]; simp [nils]
theorem make39 (n : Nat) (hn : n ≤ 4000000) (w : World) : (Instr.makeSlice 39 (.int .i64 (n : Int)) (.int .i64 (n : Int))).run Try.prog w = .ok (.slice (some ⟨w.heap.size, 0, none⟩) n n) (w.alloc (.cells (nils n).toArray 78)) := by
  have h := info78
  cases hq : Try.prog.info? 78 with
  | none => rw [hq] at h; cases h
  | some i =>
    rw [hq] at h
    simp only [Option.map_some, Option.some.injEq, Prod.mk.injEq] at h
    obtain ⟨h1, h2, h3⟩ := h
    have := run_make (P := Try.prog) w 39 78 i (.slice none 0 0) Try.underlying39 hq h1 .i64 .i64 (n : Int) (n : Int) (by omega) (Int.le_refl _) (by rw [h3]; omega) (by omega)
    rw [this, h2]
    simp only [Int.toNat_natCast, Nat.mul_one]
    rw [show (Value.slice none 0 0).cells = #[.slice none 0 0] from rfl, made78]
theorem fill_set (cl : List Value) (n : Nat) (x : Value) : (cl ++ nils (n + 1)).set cl.length x = cl ++ [x] ++ nils n := by
  rw [List.set_append_right _ _ (Nat.le_refl _), Nat.sub_self, nils, List.replicate_succ, List.set_cons_zero, nils]; simp
/-- rows cloned so far -/
structure ArI (B bb m k : Nat) (L : List (List Int)) (cl : List Value) (w : World) : Prop where
  n : cl.length = k
  bx : Bx w bb 78 (cl ++ nils (m - k))
  row : ∀ j (hj : j < cl.length) (hl : j < L.length), w.ownsRow B 3 1 cl[j] L[j].length (ints L[j])
  ne : ∀ i j (hi : i < cl.length) (hj : j < cl.length), i ≠ j → ∀ b, cl[i].ownBlock = some b → cl[j].ownBlock ≠ some b
theorem ArI.step {B bb m k : Nat} {L : List (List Int)} {cl : List Value} {w w1 : World} (h : ArI B bb m k L cl w) (hm : m = L.length) (hk : k < m) {x : Value} (hb : Below w.heap.size w w1) (hx : w1.ownsRow B 3 1 x (L[k]'(by omega)).length (ints (L[k]'(by omega)))) (hnew : ∀ b, x.ownBlock = some b → w.heap.size ≤ b) :
    ArI B bb m (k + 1) L (cl ++ [x]) (w1.setCell ⟨bb, k, none⟩ x) := by
  have hbx1 := h.bx.below hb h.bx.lt
  have F : Fr (fun b => b = bb) w1 (w1.setCell ⟨bb, k, none⟩ x) := fr_set (fun b => b = bb) w1 (p := ⟨bb, k, none⟩) rfl _
  refine ⟨by rw [List.length_append, h.n]; rfl, ?_, fun j hj hl => ?_, fun i j hi hj hne b hb2 => ?_⟩
  · have := hbx1.set_ k x
    rw [show m - k = (m - (k + 1)) + 1 by omega, ← h.n, fill_set] at this
    rw [← h.n]; exact this
  · by_cases e : j < cl.length
    · rw [List.getElem_append_left e]
      have h3 := own_below (h.row j e hl) hb
      exact own_fr h3 F (fun b hb2 e2 => own_bx_ne h3 hbx1 (by decide) (by rw [← e2]; exact hb2))
    · have e1 : j = k := by rw [List.length_append, h.n] at hj; rw [h.n] at e; simp at hj; omega
      subst e1
      rw [List.getElem_append_right (by omega)]
      simp only [h.n, Nat.sub_self, List.getElem_cons_zero]
      exact own_fr hx F (fun b hb2 e2 => own_bx_ne hx hbx1 (by decide) (by rw [← e2]; exact hb2))
  · have hold : ∀ i (hi : i < cl.length) b, cl[i].ownBlock = some b → b < w.heap.size := fun i hi b hb => own_lt (h.row i hi (by rw [h.n] at hi; omega)) hb
    by_cases ei : i < cl.length
    · rw [List.getElem_append_left ei] at hb2
      by_cases ej : j < cl.length
      · rw [List.getElem_append_left ej]; exact h.ne i j ei ej hne b hb2
      · rw [List.getElem_append_right (by omega)]
        simp only [show j - cl.length = 0 by rw [List.length_append] at hj; simp at hj; omega, List.getElem_cons_zero]
        intro e
        have := hnew b e; have := hold i ei b hb2; omega
    · rw [List.getElem_append_right (by omega)] at hb2
      simp only [show i - cl.length = 0 by rw [List.length_append] at hi; simp at hi; omega, List.getElem_cons_zero] at hb2
      have ej : j < cl.length := by rw [List.length_append] at hi hj; simp at hi hj; omega
      rw [List.getElem_append_left ej]
      intro e
      have := hnew b hb2; have := hold j ej b e; omega
theorem ArI.done {B bb m : Nat} {L : List (List Int)} {cl : List Value} {w : World} (h : ArI B bb m m L cl w) (hm : m = L.length) (hB : B ≤ bb) (hm2 : m ≤ 262144) : Ars w B (.slice (some ⟨bb, 0, none⟩) m m) cl L := by
  subst hm
  have hb := h.bx
  rw [Nat.sub_self] at hb
  simp only [nils, List.replicate_zero, List.append_nil] at hb
  refine ⟨h.n, ⟨by rw [h.n]; omega, .inr ⟨bb, L.length, cl.toArray, rfl, hB, hb, Nat.le_refl _, by unfold maxLen; omega, by simp [h.n], ?_⟩⟩, fun i hi hl => h.row i hi hl, fun i j hi hj => h.ne i j hi hj⟩
  simp
  exact List.take_of_length_le (by rw [h.n]; exact Nat.le_refl _)
def ArraysP (m : Nat) (L : List (List Int)) (w : World) (e : Ending) (w' : World) : Prop := ∃ A c vs, e = .returned (.slice A m c) ∧ Ars w' w.heap.size (.slice A m c) vs L ∧ Below w.heap.size w w'
set_option maxRecDepth 100000 in
set_option maxHeartbeats 1000000 in
theorem arrays_any {w : World} {base g : Nat} {v : Value} {vs : List Value} {L : List (List Int)} (h : Hp 46 C46 w base g v vs L) : Calls Try.prog 21 #[.pointer (some ⟨g, 0, none⟩)] w (ArraysP L.length L w) := by
  obtain ⟨m, hm⟩ : ∃ m, m = L.length := ⟨_, rfl⟩
  have hfew := h.few
  rw [← hm] at hfew
  have hmk := make39 m (by omega) w
  obtain ⟨A, c, ev⟩ := h.slice
  have hg0 := (h.bx.cell 0).trans rfl
  rw [ev, ← hm] at hg0
  have hg1 := ((h.below (heap1 w (.cells (nils m).toArray 78))).bx.cell 0).trans rfl
  rw [ev, ← hm] at hg1
  have HH := Lib.hid h
  have HM := Lib.hid hm
  have HE := Lib.hid ev
  rw [← hm]
  clear h ev hm
  go_enter Try.func21, Try.ntmps21
  go_wp2
  clear hmk
  go_loopw [17] (fun i wr => ∃ (k : Nat) (cl : List Value), k ≤ m ∧ i = .int .i64 (k : Int) ∧ ArI w.heap.size w.heap.size m k L cl wr ∧ Below w.heap.size w wr) (fun i _ => m - (intOf i).toNat)
  case atStart => exact ⟨0, [], Nat.zero_le _, rfl, ⟨rfl, by rw [Nat.sub_zero, List.nil_append]; exact Bx.new w 78 (nils m), fun j hj => by simp at hj, fun i j hi => by simp at hi⟩, heap1 _ _⟩
  case round =>
    obtain ⟨k, cl, hk, rfl, hI, hb⟩ := hrel
    obtain ⟨W1, rfl⟩ : ∃ W1, W1 = wr := ⟨_, rfl⟩
    by_cases hlt : k < m
    · have hkz : (k : Int) < (m : Int) := by omega
      have hkl : k < L.length := by rw [← HM.out]; exact hlt
      have hHr := HH.out.fr (F := fun b => w.heap.size ≤ b) (Fr.of_below (F := fun b => w.heap.size ≤ b) hb) (fun b hb2 => by have := HH.out.lt hb2; omega)
      obtain ⟨b, c2, e1, hbl, A2, d, hc, -⟩ := hHr.row hkl
      have hkv : k < vs.length := by rw [hHr.ar.len]; exact hkl
      have hrow := hHr.ar.row k hkv hkl
      have hvk : vs[k] = .slice A2 L[k].length d := by
        have h5 := hHr.ar.own
        rw [e1] at h5
        have h6 := h5.cellAt k (by omega)
        rw [hc, List.getElem?_eq_getElem hkv] at h6
        exact (Option.some.inj h6).symm
      rw [hvk] at hrow
      rw [HE.out] at e1
      injection e1 with e1 e2 e3
      subst e1
      have hsz : L[k].length ≤ 262144 := by have := cells_row hkl; have := HH.out.cap; omega
      have HC := Lib.hid (clone_any (base := w.heap.size) hrow hsz hb.size)
      have HK := Lib.hid (And.intro hI hb)
      have HKL := Lib.hid hlt
      clear hHr hbl hrow hvk hI hb hg0 hg1 hk e2 e3 hsz
      go_wp2_with (go_at_call 41; refine HC.out.mono ?_)
      rintro e w5 ⟨x, rfl, hx, hnew, hb5⟩
      have hst := HK.out.1.step HM.out HKL.out hb5 hx hnew
      have hbx5 := HK.out.1.bx.below hb5 HK.out.1.bx.lt
      have hcell : w5.cell? ⟨w.heap.size, k, none⟩ = some (.slice none 0 0) := by
        rw [hbx5.cell k, List.getElem?_append_right (by rw [HK.out.1.n]; exact Nat.le_refl _), HK.out.1.n, Nat.sub_self]
        unfold nils
        rw [show m - k = (m - (k + 1)) + 1 by have := HKL.out; omega, List.replicate_succ]
        rfl
      have hfz := hbx5.frozen k
      obtain ⟨Ax, cx, rfl⟩ := own_slice hx
      have HF := Lib.hid (And.intro hst ((HK.out.2.trans (hb5.mono HK.out.2.size)).setCell (p := ⟨w.heap.size, k, none⟩) (Nat.le_refl _) (.slice Ax L[k].length cx)))
      clear hst hbx5 hx hnew hb5
      go_wp2
      go_roundw
      case rel => exact ⟨k + 1, _, by omega, by go_num, HF.out.1, HF.out.2⟩
      case measure => simp [intOf]; omega
    · obtain rfl : k = m := by omega
      have hkz : ¬ (k : Int) < (k : Int) := by omega
      have HF := Lib.hid (And.intro (hI.done HM.out (Nat.le_refl _) hfew) hb)
      clear hI hb
      go_wp2
      go_ret
      exact ⟨_, _, _, rfl, HF.out.1, HF.out.2⟩
end Go.Proofs.Ytpeodpgihmcghaa
