/- PROVED here: the walk of TokenWords. No condition but those in each theorem's own head. -/
import Derived.Test.YtahmadelokofbaaDoorR
import Derived.Test.YtahmadelokofbaaDoorO
namespace Go.Proofs.YtahmadelokofbaaDoor
open Go Go.RowKit

theorem quiet_left {P : Program} {f : FuncId} {args : Array Value} {w : World} {n : Nat} {v : Value}
    (h : Calls P f args (w.drewN n) fun e w' => e = .returned v ∧ w.drewN n = w') : Calls P f args (w.drewN n) fun e w'' => e = .returned v ∧ ∃ m, w'' = w.drewN m :=
  h.mono fun _ _ ⟨he, hm⟩ => ⟨he, n, hm.symm⟩
def OkP (ts : List Tok) (n : Nat) (w : World) (e : Ending) (w' : World) : Prop :=
  ∃ A c, e = .returned (.tuple #[.slice A n c, .int .i64 0, .int .i64 0]) ∧ Toks w' A ts ∧ (∀ a, A = some a → w.heap.size ≤ a.block) ∧ w'.ownsRow w.heap.size 34 4 (.slice A n c) n (tfl ts) ∧ Below w.heap.size w w'
theorem cut_okP (s : ByteArray) (w : World) (hE : Errs w) (hs : s.size ≤ 20000) {ts : List Tok} {n : Nat} (h : cutL 0 s.data.toList = .ok ts) (hn : ts.length = n) : Calls Tryd.prog 11 #[.string s] w (OkP ts n w) := by
  subst hn
  exact (cut_any s w hE hs).mono fun _ _ hp => post_ok hp (by rw [cutR_0]; exact h)
theorem cut_badP (s : ByteArray) (w : World) (hE : Errs w) (hs : s.size ≤ 20000) {p : Nat} (h : cutL 0 s.data.toList = .bad p) : Calls Tryd.prog 11 #[.string s] w (BadPost (p : Int) w) :=
  (cut_any s w hE hs).mono fun _ _ hp => post_bad hp (by rw [cutR_0]; exact h)
theorem Toks.first {w : World} {A : Option Addr} {t : Tok} {ts : List Tok} (h : Toks w A (t :: ts)) : ∃ b off, A = some ⟨b, off, none⟩ ∧ b < w.heap.size ∧
    w.cell? ⟨b, off, none⟩ = some (.int .i64 (t.k : Int)) ∧ w.cell? ⟨b, off + 1, none⟩ = some (.int .i64 t.n) ∧ w.cell? ⟨b, off + 2, none⟩ = some (.int .i64 (t.p : Int)) ∧ w.cell? ⟨b, off + 3, none⟩ = some (.string (bs t.s)) := by
  obtain ⟨b, off, e, hb, c0, c1, c2, c3⟩ := h.cells (j := 0) (by simp)
  exact ⟨b, off, e, hb, by simpa using c0, by simpa using c1, by simpa using c2, by simpa using c3⟩
set_option maxRecDepth 100000 in
set_option maxHeartbeats 4000000 in
theorem words_bad (s : ByteArray) (w : World) (hE : Errs w) (hs5 : s.size ≤ 500) (p : Nat) (hr : cutL 0 s.data.toList = .bad p) (hk : keptB s.data.toList = false) (hi : idB s.data.toList = false) : Calls Tryd.prog 9 #[.string s] w (TruePost w) := by
  have HE := Lib.hid hE
  have HR := Lib.hid hr
  clear hE hr
  have hz : ¬ (500 : Int) < (s.size : Int) := by omega
  have hzd : decide ((500 : Int) < (s.size : Int)) = false := decide_eq_false hz
  have hs : s.size ≤ 281474976710656 := by omega
  go_enter Tryd.func9, Tryd.ntmps9
  go_upto_region 4 with (first | (go_at_call 10; refine (shown_any _ HE.out).mono ?_; rintro e w1 ⟨rfl, hb1⟩) | (go_at_call 16; refine (kept_l _ _).mono ?_; rintro e w' ⟨rfl, rfl⟩) | (go_at_call 18; refine (ident_any _ _ hs).mono ?_; rintro e w' ⟨rfl, rfl⟩))
  go_wp2_with (go_at_call 11; refine (cut_badP s _ (HE.out.below hb1) (by omega) HR.out).mono ?_)
  rintro e w2 ⟨rfl, hb2⟩
  go_upto_region 8 with (first | (go_at_call 10; refine (shown_any _ HE.out).mono ?_; rintro e w1 ⟨rfl, hb1⟩) | (go_at_call 16; refine (kept_l _ _).mono ?_; rintro e w' ⟨rfl, rfl⟩) | (go_at_call 18; refine (ident_any _ _ hs).mono ?_; rintro e w' ⟨rfl, rfl⟩))
  go_quiet ((first | (go_at_call 16; exact quiet_left (kept_l _ _)) | (go_at_call 18; exact quiet_left (ident_any _ _ hs))))
  go_wp2
  go_ret
  exact ⟨rfl, below_drewN (bt hb1 hb2) _⟩
set_option maxRecDepth 100000 in
set_option maxHeartbeats 4000000 in
theorem words_len (s : ByteArray) (w : World) (hE : Errs w) (hs5 : s.size ≤ 500) (ts : List Tok) (hr : cutL 0 s.data.toList = .ok ts) (hl : ts.length ≠ 2) (hk : keptB s.data.toList = false) (hi : idB s.data.toList = false) : Calls Tryd.prog 9 #[.string s] w (TruePost w) := by
  have HE := Lib.hid hE
  have HR := Lib.hid hr
  clear hE hr
  have hz : ¬ (500 : Int) < (s.size : Int) := by omega
  have hzd : decide ((500 : Int) < (s.size : Int)) = false := decide_eq_false hz
  have hs : s.size ≤ 281474976710656 := by omega
  go_enter Tryd.func9, Tryd.ntmps9
  go_upto_region 4 with (first | (go_at_call 10; refine (shown_any _ HE.out).mono ?_; rintro e w1 ⟨rfl, hb1⟩) | (go_at_call 16; refine (kept_l _ _).mono ?_; rintro e w' ⟨rfl, rfl⟩) | (go_at_call 18; refine (ident_any _ _ hs).mono ?_; rintro e w' ⟨rfl, rfl⟩))
  go_wp2_with (go_at_call 11; refine (cut_okP s _ (HE.out.below hb1) (by omega) HR.out rfl).mono ?_)
  rintro e w2 ⟨A, c, rfl, hT, _, _, hb2⟩
  have hq : ((ts.length : Int) == 2) = false := beq_eq_false_iff_ne.2 (by omega)
  clear hT
  go_upto_region 8 with (first | (go_at_call 10; refine (shown_any _ HE.out).mono ?_; rintro e w1 ⟨rfl, hb1⟩) | (go_at_call 16; refine (kept_l _ _).mono ?_; rintro e w' ⟨rfl, rfl⟩) | (go_at_call 18; refine (ident_any _ _ hs).mono ?_; rintro e w' ⟨rfl, rfl⟩))
  go_quiet ((first | (go_at_call 16; exact quiet_left (kept_l _ _)) | (go_at_call 18; exact quiet_left (ident_any _ _ hs))))
  go_wp2
  go_ret
  exact ⟨rfl, below_drewN (bt hb1 hb2) _⟩
set_option maxRecDepth 100000 in
set_option maxHeartbeats 4000000 in
theorem words_at (s : ByteArray) (w : World) (hE : Errs w) (hs5 : s.size ≤ 500) (t u : Tok) (hr : cutL 0 s.data.toList = .ok [t, u]) (hp : t.p ≠ 0) (hk : keptB s.data.toList = false) (hi : idB s.data.toList = false) : Calls Tryd.prog 9 #[.string s] w (TruePost w) := by
  have HE := Lib.hid hE
  have HR := Lib.hid hr
  clear hE hr
  have hz : ¬ (500 : Int) < (s.size : Int) := by omega
  have hzd : decide ((500 : Int) < (s.size : Int)) = false := decide_eq_false hz
  have hs : s.size ≤ 281474976710656 := by omega
  go_enter Tryd.func9, Tryd.ntmps9
  go_upto_region 4 with (first | (go_at_call 10; refine (shown_any _ HE.out).mono ?_; rintro e w1 ⟨rfl, hb1⟩) | (go_at_call 16; refine (kept_l _ _).mono ?_; rintro e w' ⟨rfl, rfl⟩) | (go_at_call 18; refine (ident_any _ _ hs).mono ?_; rintro e w' ⟨rfl, rfl⟩))
  go_wp2_with (go_at_call 11; refine (cut_okP s _ (HE.out.below hb1) (by omega) HR.out rfl).mono ?_)
  rintro e w2 ⟨A, c, rfl, hT, _, _, hb2⟩
  obtain ⟨b, off, rfl, hbl, c0, c1, c2, c3⟩ := hT.first
  clear hT
  have hq : ((t.p : Int) == 0) = false := beq_eq_false_iff_ne.2 (by omega)
  go_upto_region 8 with (first | (go_at_call 10; refine (shown_any _ HE.out).mono ?_; rintro e w1 ⟨rfl, hb1⟩) | (go_at_call 16; refine (kept_l _ _).mono ?_; rintro e w' ⟨rfl, rfl⟩) | (go_at_call 18; refine (ident_any _ _ hs).mono ?_; rintro e w' ⟨rfl, rfl⟩))
  go_quiet ((first | (go_at_call 16; exact quiet_left (kept_l _ _)) | (go_at_call 18; exact quiet_left (ident_any _ _ hs))))
  go_wp2
  go_ret
  exact ⟨rfl, below_drewN (bt hb1 hb2) _⟩
set_option maxRecDepth 100000 in
set_option maxHeartbeats 4000000 in
theorem words_txt (s : ByteArray) (w : World) (hE : Errs w) (hs5 : s.size ≤ 500) (t u : Tok) (hr : cutL 0 s.data.toList = .ok [t, u]) (hp : t.p = 0) (ht : t.s ≠ s.data.toList) (hk : keptB s.data.toList = false) (hi : idB s.data.toList = false) : Calls Tryd.prog 9 #[.string s] w (TruePost w) := by
  have HE := Lib.hid hE
  have HR := Lib.hid hr
  clear hE hr
  have hz : ¬ (500 : Int) < (s.size : Int) := by omega
  have hzd : decide ((500 : Int) < (s.size : Int)) = false := decide_eq_false hz
  have hs : s.size ≤ 281474976710656 := by omega
  go_enter Tryd.func9, Tryd.ntmps9
  go_upto_region 4 with (first | (go_at_call 10; refine (shown_any _ HE.out).mono ?_; rintro e w1 ⟨rfl, hb1⟩) | (go_at_call 16; refine (kept_l _ _).mono ?_; rintro e w' ⟨rfl, rfl⟩) | (go_at_call 18; refine (ident_any _ _ hs).mono ?_; rintro e w' ⟨rfl, rfl⟩))
  go_wp2_with (go_at_call 11; refine (cut_okP s _ (HE.out.below hb1) (by omega) HR.out rfl).mono ?_)
  rintro e w2 ⟨A, c, rfl, hT, _, _, hb2⟩
  obtain ⟨b, off, rfl, hbl, c0, c1, c2, c3⟩ := hT.first
  clear hT
  rw [hp] at c2
  have hq : ((bs t.s).toList == s.toList) = false := by
    rw [ByteArray.toList_eq, ByteArray.toList_eq, bs_list]; exact beq_eq_false_iff_ne.2 ht
  go_upto_region 8 with (first | (go_at_call 10; refine (shown_any _ HE.out).mono ?_; rintro e w1 ⟨rfl, hb1⟩) | (go_at_call 16; refine (kept_l _ _).mono ?_; rintro e w' ⟨rfl, rfl⟩) | (go_at_call 18; refine (ident_any _ _ hs).mono ?_; rintro e w' ⟨rfl, rfl⟩))
  go_quiet ((first | (go_at_call 16; exact quiet_left (kept_l _ _)) | (go_at_call 18; exact quiet_left (ident_any _ _ hs))))
  go_wp2
  go_ret
  exact ⟨rfl, below_drewN (bt hb1 hb2) _⟩
set_option maxRecDepth 100000 in
set_option maxHeartbeats 4000000 in
theorem words_one4 (s : ByteArray) (w : World) (hE : Errs w) (hs5 : s.size ≤ 500) (n : Int) (u : Tok) (hr : cutL 0 s.data.toList = .ok [⟨4, n, 0, s.data.toList⟩, u]) (hk : keptB s.data.toList = true) (hi : idB s.data.toList = false) : Calls Tryd.prog 9 #[.string s] w (TruePost w) := by
  have HE := Lib.hid hE
  have HR := Lib.hid hr
  clear hE hr
  have hz : ¬ (500 : Int) < (s.size : Int) := by omega
  have hzd : decide ((500 : Int) < (s.size : Int)) = false := decide_eq_false hz
  have hs : s.size ≤ 281474976710656 := by omega
  go_enter Tryd.func9, Tryd.ntmps9
  go_upto_region 4 with (first | (go_at_call 10; refine (shown_any _ HE.out).mono ?_; rintro e w1 ⟨rfl, hb1⟩) | (go_at_call 16; refine (kept_l _ _).mono ?_; rintro e w' ⟨rfl, rfl⟩) | (go_at_call 18; refine (ident_any _ _ hs).mono ?_; rintro e w' ⟨rfl, rfl⟩))
  go_wp2_with (go_at_call 11; refine (cut_okP s _ (HE.out.below hb1) (by omega) HR.out rfl).mono ?_)
  rintro e w2 ⟨A, c, rfl, hT, _, _, hb2⟩
  obtain ⟨b, off, rfl, hbl, c0, c1, c2, c3⟩ := hT.first
  clear hT
  rw [bs_of] at c3
  have hq : (s.toList == s.toList) = true := beq_iff_eq.2 rfl
  go_upto_region 8 with (first | (go_at_call 10; refine (shown_any _ HE.out).mono ?_; rintro e w1 ⟨rfl, hb1⟩) | (go_at_call 16; refine (kept_l _ _).mono ?_; rintro e w' ⟨rfl, rfl⟩) | (go_at_call 18; refine (ident_any _ _ hs).mono ?_; rintro e w' ⟨rfl, rfl⟩))
  go_quiet ((first | (go_at_call 16; exact quiet_left (kept_l _ _)) | (go_at_call 18; exact quiet_left (ident_any _ _ hs))))
  go_wp2
  go_ret
  exact ⟨rfl, below_drewN (bt hb1 hb2) _⟩
set_option maxRecDepth 100000 in
set_option maxHeartbeats 4000000 in
theorem words_one1 (s : ByteArray) (w : World) (hE : Errs w) (hs5 : s.size ≤ 500) (n : Int) (u : Tok) (hr : cutL 0 s.data.toList = .ok [⟨1, n, 0, s.data.toList⟩, u]) (hk : keptB s.data.toList = false) (hi : idB s.data.toList = true) : Calls Tryd.prog 9 #[.string s] w (TruePost w) := by
  have HE := Lib.hid hE
  have HR := Lib.hid hr
  clear hE hr
  have hz : ¬ (500 : Int) < (s.size : Int) := by omega
  have hzd : decide ((500 : Int) < (s.size : Int)) = false := decide_eq_false hz
  have hs : s.size ≤ 281474976710656 := by omega
  go_enter Tryd.func9, Tryd.ntmps9
  go_upto_region 4 with (first | (go_at_call 10; refine (shown_any _ HE.out).mono ?_; rintro e w1 ⟨rfl, hb1⟩) | (go_at_call 16; refine (kept_l _ _).mono ?_; rintro e w' ⟨rfl, rfl⟩) | (go_at_call 18; refine (ident_any _ _ hs).mono ?_; rintro e w' ⟨rfl, rfl⟩))
  go_wp2_with (go_at_call 11; refine (cut_okP s _ (HE.out.below hb1) (by omega) HR.out rfl).mono ?_)
  rintro e w2 ⟨A, c, rfl, hT, _, _, hb2⟩
  obtain ⟨b, off, rfl, hbl, c0, c1, c2, c3⟩ := hT.first
  clear hT
  rw [bs_of] at c3
  have hq : (s.toList == s.toList) = true := beq_iff_eq.2 rfl
  go_upto_region 8 with (first | (go_at_call 10; refine (shown_any _ HE.out).mono ?_; rintro e w1 ⟨rfl, hb1⟩) | (go_at_call 16; refine (kept_l _ _).mono ?_; rintro e w' ⟨rfl, rfl⟩) | (go_at_call 18; refine (ident_any _ _ hs).mono ?_; rintro e w' ⟨rfl, rfl⟩))
  go_quiet ((first | (go_at_call 16; exact quiet_left (kept_l _ _)) | (go_at_call 18; exact quiet_left (ident_any _ _ hs))))
  go_wp2
  go_ret
  exact ⟨rfl, below_drewN (bt hb1 hb2) _⟩
set_option maxRecDepth 100000 in
set_option maxHeartbeats 4000000 in
theorem words_one3 (s : ByteArray) (w : World) (hE : Errs w) (hs5 : s.size ≤ 500) (n : Int) (u : Tok) (hr : cutL 0 s.data.toList = .ok [⟨3, n, 0, s.data.toList⟩, u]) (hk : keptB s.data.toList = false) (hi : idB s.data.toList = false) : Calls Tryd.prog 9 #[.string s] w (TruePost w) := by
  have HE := Lib.hid hE
  have HR := Lib.hid hr
  clear hE hr
  have hz : ¬ (500 : Int) < (s.size : Int) := by omega
  have hzd : decide ((500 : Int) < (s.size : Int)) = false := decide_eq_false hz
  have hs : s.size ≤ 281474976710656 := by omega
  go_enter Tryd.func9, Tryd.ntmps9
  go_upto_region 4 with (first | (go_at_call 10; refine (shown_any _ HE.out).mono ?_; rintro e w1 ⟨rfl, hb1⟩) | (go_at_call 16; refine (kept_l _ _).mono ?_; rintro e w' ⟨rfl, rfl⟩) | (go_at_call 18; refine (ident_any _ _ hs).mono ?_; rintro e w' ⟨rfl, rfl⟩))
  go_wp2_with (go_at_call 11; refine (cut_okP s _ (HE.out.below hb1) (by omega) HR.out rfl).mono ?_)
  rintro e w2 ⟨A, c, rfl, hT, _, _, hb2⟩
  obtain ⟨b, off, rfl, hbl, c0, c1, c2, c3⟩ := hT.first
  clear hT
  rw [bs_of] at c3
  have hq : (s.toList == s.toList) = true := beq_iff_eq.2 rfl
  go_upto_region 8 with (first | (go_at_call 10; refine (shown_any _ HE.out).mono ?_; rintro e w1 ⟨rfl, hb1⟩) | (go_at_call 16; refine (kept_l _ _).mono ?_; rintro e w' ⟨rfl, rfl⟩) | (go_at_call 18; refine (ident_any _ _ hs).mono ?_; rintro e w' ⟨rfl, rfl⟩))
  go_quiet ((first | (go_at_call 16; exact quiet_left (kept_l _ _)) | (go_at_call 18; exact quiet_left (ident_any _ _ hs))))
  go_wp2
  go_ret
  exact ⟨rfl, below_drewN (bt hb1 hb2) _⟩
set_option maxRecDepth 100000 in
set_option maxHeartbeats 4000000 in
theorem words_one2 (s : ByteArray) (w : World) (hE : Errs w) (hs5 : s.size ≤ 500) (n : Int) (hn : 0 ≤ n) (u : Tok) (hr : cutL 0 s.data.toList = .ok [⟨2, n, 0, s.data.toList⟩, u]) (hk : keptB s.data.toList = false) (hi : idB s.data.toList = false) : Calls Tryd.prog 9 #[.string s] w (TruePost w) := by
  have HE := Lib.hid hE
  have HR := Lib.hid hr
  clear hE hr
  have hz : ¬ (500 : Int) < (s.size : Int) := by omega
  have hzd : decide ((500 : Int) < (s.size : Int)) = false := decide_eq_false hz
  have hs : s.size ≤ 281474976710656 := by omega
  go_enter Tryd.func9, Tryd.ntmps9
  go_upto_region 4 with (first | (go_at_call 10; refine (shown_any _ HE.out).mono ?_; rintro e w1 ⟨rfl, hb1⟩) | (go_at_call 16; refine (kept_l _ _).mono ?_; rintro e w' ⟨rfl, rfl⟩) | (go_at_call 18; refine (ident_any _ _ hs).mono ?_; rintro e w' ⟨rfl, rfl⟩))
  go_wp2_with (go_at_call 11; refine (cut_okP s _ (HE.out.below hb1) (by omega) HR.out rfl).mono ?_)
  rintro e w2 ⟨A, c, rfl, hT, _, _, hb2⟩
  obtain ⟨b, off, rfl, hbl, c0, c1, c2, c3⟩ := hT.first
  clear hT
  rw [bs_of] at c3
  have hq : (s.toList == s.toList) = true := beq_iff_eq.2 rfl
  go_upto_region 8 with (first | (go_at_call 10; refine (shown_any _ HE.out).mono ?_; rintro e w1 ⟨rfl, hb1⟩) | (go_at_call 16; refine (kept_l _ _).mono ?_; rintro e w' ⟨rfl, rfl⟩) | (go_at_call 18; refine (ident_any _ _ hs).mono ?_; rintro e w' ⟨rfl, rfl⟩))
  go_quiet ((first | (go_at_call 16; exact quiet_left (kept_l _ _)) | (go_at_call 18; exact quiet_left (ident_any _ _ hs))))
  go_wp2
  go_ret
  exact ⟨rfl, below_drewN (bt hb1 hb2) _⟩
theorem words_any (s : ByteArray) (w : World) (hE : Errs w) : Calls Tryd.prog 9 #[.string s] w (TruePost w) := by
  by_cases h0 : 500 < s.size
  · have HE := Lib.hid hE
    clear hE
    have hz : (500 : Int) < (s.size : Int) := by omega
    go_enter Tryd.func9, Tryd.ntmps9
    go_wp2_with (go_at_call 10; refine (shown_any _ HE.out).mono ?_; rintro e w1 ⟨rfl, hb1⟩)
    go_ret
    exact ⟨rfl, hb1⟩
  · cases hk : keptB s.data.toList
    · cases hi : idB s.data.toList
      · cases hr : cutL 0 s.data.toList with
        | bad p => exact words_bad s w hE (by omega) p hr hk hi
        | ok ts =>
          by_cases hl : ts.length = 2
          · match ts, hl with
            | [t, u], _ =>
              by_cases hp : t.p = 0
              · by_cases ht : t.s = s.data.toList
                · have hg := two_form hr rfl
                  obtain ⟨k, n, p, x⟩ := t
                  obtain ⟨g1, g2, g3, g4⟩ := hg
                  dsimp only at hp ht g1 g2 g3 g4
                  subst hp ht
                  have hn := tokN_pos g4
                  rw [← g2] at hn
                  have hc : k = 3 ∨ k = 2 := by
                    rw [g1]
                    rw [g1] at g3
                    unfold tokK at g3 ⊢
                    rw [hk, hi] at g3 ⊢
                    simp only [Bool.false_eq_true, if_false] at g3 ⊢
                    cases hs : signB s.data.toList
                    · rw [hs] at g3
                      cases hm : numOk s.data.toList
                      · rw [hm] at g3; simp at g3
                      · right; simp
                    · left; simp
                  rcases hc with rfl | rfl
                  · exact words_one3 s w hE (by omega) n u hr hk hi
                  · exact words_one2 s w hE (by omega) n hn u hr hk hi
                · exact words_txt s w hE (by omega) t u hr hp ht hk hi
              · exact words_at s w hE (by omega) t u hr hp hk hi
          · exact words_len s w hE (by omega) ts hr hl hk hi
      · exact words_one1 s w hE (by omega) 0 _ (id_cut hi) hk hi
    · obtain ⟨hr, hi⟩ := kept_cut hk
      exact words_one4 s w hE (by omega) 0 _ hr hk hi
end Go.Proofs.YtahmadelokofbaaDoor
