/- PROVED here: the contracts of Join and Meet at two places. No condition but those in each theorem's own head. -/
import Derived.Test.YtefnbjkmmmdagaaO
namespace Go.Proofs.Ytefnbjkmmmdagaa
open Go Go.RowKit

section
variable {w : World} {g : Nat} {v1 v2 v3 : Value} {dn : Nat} {st : Int} {f : Nat → Int}
theorem LB.c0 (h : LB w g v1 v2 v3 dn st f) : w.cell? ⟨g, 0, none⟩ = some v1 := by rw [h.cell, latS_h (by omega)]; rfl
theorem LB.t (h : LB w g v1 v2 v3 dn st f) {i : Nat} (h6 : 6 ≤ i) (hi : i < 518) : w.cell? ⟨g, i, none⟩ = some (.int .i64 (f (i - 6))) := by rw [h.cell, latS_t h6 hi]
theorem lb_ne {gu n : Nat} {u : Nat → Nat} (h : LB w g v1 v2 v3 dn st f) (hu : Mb w gu n u) : g ≠ gu := by
  rintro rfl
  unfold LB at h; unfold Mb at hu
  rw [h] at hu
  injection hu with hu
  injection hu with _ ht
  cases ht
end
theorem lb_nostr {w : World} {g : Nat} {A B C : Option Addr} {n1 n2 n3 c1 c2 c3 : Nat} {dn : Nat} {st : Int} {f : Nat → Int} (h : LB w g (.slice A n1 c1) (.slice B n2 c2) (.slice C n3 c3) dn st f) (i : Nat) (s : ByteArray) : w.cell? ⟨g, i, none⟩ ≠ some (.string s) := by
  rw [h.cell]
  by_cases h6 : i < 6
  · rw [latS_h h6]
    have : i = 0 ∨ i = 1 ∨ i = 2 ∨ i = 3 ∨ i = 4 ∨ i = 5 := by omega
    rcases this with rfl | rfl | rfl | rfl | rfl | rfl <;> simp
  · by_cases h5 : i < 518
    · rw [latS_t (by omega) h5]; simp
    · rw [Array.getElem?_eq_none (by rw [latS_size]; omega)]; simp
theorem strs_grown {w w' : World} {g : Nat} {A A' B C : Option Addr} {n1 n2 n3 c1 c2 c3 : Nat} {dn : Nat} {st : Int} {f : Nat → Int} {l : List ByteArray} (hS : Strs w A' l) (h : LB w g (.slice A n1 c1) (.slice B n2 c2) (.slice C n3 c3) dn st f) (hg : w.grownBy w' (some g)) : Strs w' A' l := fun h0 => by
  obtain ⟨b, off, e, hb, hc⟩ := hS h0
  refine ⟨b, off, e, Nat.lt_of_lt_of_le hb hg.size, fun j hj => ?_⟩
  have hbg : b ≠ g := fun e2 => by subst e2; exact lb_nostr h _ _ (hc j hj)
  exact (World.cell?_of_block (a := ⟨b, off + j, none⟩) (hg.block b hb (fun e2 => hbg (by injection e2)))).trans (hc j hj)
theorem tab_lo {n : Nat} {u d : Nat → Nat} {f : Nat → Int} (ht : Tab n u d f) {a b : Nat} (ha : a < n) (hb : b < n) {r : Int} (H : bd n u a b = r) : f (6 + (a * 16 + b) - 6) = r := by
  rw [← H, ← (ht a b ha hb).1]; congr 1; omega
theorem tab_hi {n : Nat} {u d : Nat → Nat} {f : Nat → Int} (ht : Tab n u d f) {a b : Nat} (ha : a < n) (hb : b < n) {r : Int} (H : bd n d a b = r) : f (262 + (a * 16 + b) - 6) = r := by
  rw [← H, ← (ht a b ha hb).2]; congr 1; omega
/-- behind a call of a lattice's method -/
def LPost (g : Nat) (l : List ByteArray) (u d : Nat → Nat) (v : Value) (w : World) (e : Ending) (w' : World) : Prop := e = .returned v ∧ Lat w' g l u d ∧ w.grownBy w' (some g)
set_option maxRecDepth 100000 in
set_option maxHeartbeats 2000000 in
theorem join_core (g : Nat) (l : List ByteArray) (u d : Nat → Nat) (a b : Nat) (r : Int) (H : Hid (bd l.length u a b = r)) (w : World) (hn : l.length ≤ 16) (fu : Fit l.length u) (fd : Fit l.length d) (ha : a < l.length) (hb : b < l.length) (hL : Lat w g l u d) :
    Calls Try.prog 16 #[.pointer (some ⟨g, 0, none⟩), .int .i64 (a : Int), .int .i64 (b : Int)] w (LPost g l u d (.int .i64 r) w) := by
  obtain ⟨dn, f, ⟨A, c, gu, gd, h1, hS, hu, hd⟩, hst⟩ := hL
  have hLB : LB w g (.slice A l.length c) (.slice (some ⟨gu, 0, none⟩) l.length l.length) (.slice (some ⟨gd, 0, none⟩) l.length l.length) dn 0 f := h1
  have hne1 := lb_ne hLB hu
  have hne2 := lb_ne hLB hd
  have hc0 := hLB.c0
  have hmf : ∀ (fn : Fn) (first cap : Array Value) (w : World), (Instr.makeFunc fn first cap).run Try.prog w = .ok (.func fn first cap) w := fun _ _ _ _ => rfl
  have haz : (a : Int) < 16 := by omega
  have hbz : (b : Int) < 16 := by omega
  have h1' := has_any g l.length A c (a : Int) w hc0
  have h2' := has_any g l.length A c (b : Int) w hc0
  rw [show hasB l.length (a : Int) = true by unfold hasB; rw [decide_eq_true (by omega), decide_eq_true (by omega)]; rfl] at h1'
  rw [show hasB l.length (b : Int) = true by unfold hasB; rw [decide_eq_true (by omega), decide_eq_true (by omega)]; rfl] at h2'
  have H1 := Lib.hid h1'
  have H2 := Lib.hid h2'
  have HLB := Lib.hid hLB
  have HS := Lib.hid hS
  have HU := Lib.hid hu
  have HD := Lib.hid hd
  rcases hst with rfl | ⟨rfl, ht⟩
  · have HDO := Lib.hid (do_first g gu gd l.length _ f u d hn fu fd w hne1 hne2 hLB hu hd)
    clear h1 hLB hS hu hd hc0 h1' h2' fu fd
    go_enter Try.func16, Try.ntmps16
    go_wp2_with (first
      | (go_at_call_of 46 (Value.int IntKind.i64 (a : Int)); refine H1.out.mono ?_; rintro e w' ⟨rfl, rfl⟩)
      | (go_at_call 46; refine H2.out.mono ?_; rintro e w' ⟨rfl, rfl⟩)
      | (go_at_call 47; refine HDO.out.mono ?_; rintro e w2 ⟨rfl, f2, ht2, L2, G2⟩; have hct := L2.t (i := 6 + (a * 16 + b)) (by omega) (by omega); rw [tab_lo ht2 ha hb H.out, ← Nat.add_assoc] at hct))
    go_ret
    exact ⟨rfl, ⟨1, f2, ⟨A, c, gu, gd, L2, strs_grown HS.out HLB.out G2, HU.out.grown G2 (by intro e; injection e with e; exact hne1 e.symm), HD.out.grown G2 (by intro e; injection e with e; exact hne2 e.symm)⟩, .inr ⟨rfl, ht2⟩⟩, G2⟩
  · have HDO := Lib.hid (fun fv => do_done g _ _ _ f fv w hLB)
    have hct := hLB.t (i := 6 + (a * 16 + b)) (by omega) (by omega)
    rw [tab_lo ht ha hb H.out, ← Nat.add_assoc] at hct
    clear h1 hLB hS hu hd hc0 h1' h2' fu fd
    go_enter Try.func16, Try.ntmps16
    go_wp2_with (first
      | (go_at_call_of 46 (Value.int IntKind.i64 (a : Int)); refine H1.out.mono ?_; rintro e w' ⟨rfl, rfl⟩)
      | (go_at_call 46; refine H2.out.mono ?_; rintro e w' ⟨rfl, rfl⟩)
      | (go_at_call 47; refine (HDO.out _).mono ?_; rintro e w' ⟨rfl, rfl⟩))
    go_ret
    exact ⟨rfl, ⟨1, f, ⟨A, c, gu, gd, HLB.out, HS.out, HU.out, HD.out⟩, .inr ⟨rfl, ht⟩⟩, ⟨rfl, rfl, rfl, Nat.le_refl _, fun _ _ _ => rfl⟩⟩
set_option maxRecDepth 100000 in
set_option maxHeartbeats 2000000 in
theorem meet_core (g : Nat) (l : List ByteArray) (u d : Nat → Nat) (a b : Nat) (r : Int) (H : Hid (bd l.length d a b = r)) (w : World) (hn : l.length ≤ 16) (fu : Fit l.length u) (fd : Fit l.length d) (ha : a < l.length) (hb : b < l.length) (hL : Lat w g l u d) :
    Calls Try.prog 18 #[.pointer (some ⟨g, 0, none⟩), .int .i64 (a : Int), .int .i64 (b : Int)] w (LPost g l u d (.int .i64 r) w) := by
  obtain ⟨dn, f, ⟨A, c, gu, gd, h1, hS, hu, hd⟩, hst⟩ := hL
  have hLB : LB w g (.slice A l.length c) (.slice (some ⟨gu, 0, none⟩) l.length l.length) (.slice (some ⟨gd, 0, none⟩) l.length l.length) dn 0 f := h1
  have hne1 := lb_ne hLB hu
  have hne2 := lb_ne hLB hd
  have hc0 := hLB.c0
  have hmf : ∀ (fn : Fn) (first cap : Array Value) (w : World), (Instr.makeFunc fn first cap).run Try.prog w = .ok (.func fn first cap) w := fun _ _ _ _ => rfl
  have haz : (a : Int) < 16 := by omega
  have hbz : (b : Int) < 16 := by omega
  have h1' := has_any g l.length A c (a : Int) w hc0
  have h2' := has_any g l.length A c (b : Int) w hc0
  rw [show hasB l.length (a : Int) = true by unfold hasB; rw [decide_eq_true (by omega), decide_eq_true (by omega)]; rfl] at h1'
  rw [show hasB l.length (b : Int) = true by unfold hasB; rw [decide_eq_true (by omega), decide_eq_true (by omega)]; rfl] at h2'
  have H1 := Lib.hid h1'
  have H2 := Lib.hid h2'
  have HLB := Lib.hid hLB
  have HS := Lib.hid hS
  have HU := Lib.hid hu
  have HD := Lib.hid hd
  rcases hst with rfl | ⟨rfl, ht⟩
  · have HDO := Lib.hid (do_first g gu gd l.length _ f u d hn fu fd w hne1 hne2 hLB hu hd)
    clear h1 hLB hS hu hd hc0 h1' h2' fu fd
    go_enter Try.func18, Try.ntmps18
    go_wp2_with (first
      | (go_at_call_of 46 (Value.int IntKind.i64 (a : Int)); refine H1.out.mono ?_; rintro e w' ⟨rfl, rfl⟩)
      | (go_at_call 46; refine H2.out.mono ?_; rintro e w' ⟨rfl, rfl⟩)
      | (go_at_call 47; refine HDO.out.mono ?_; rintro e w2 ⟨rfl, f2, ht2, L2, G2⟩; have hct := L2.t (i := 262 + (a * 16 + b)) (by omega) (by omega); rw [tab_hi ht2 ha hb H.out, ← Nat.add_assoc] at hct))
    go_ret
    exact ⟨rfl, ⟨1, f2, ⟨A, c, gu, gd, L2, strs_grown HS.out HLB.out G2, HU.out.grown G2 (by intro e; injection e with e; exact hne1 e.symm), HD.out.grown G2 (by intro e; injection e with e; exact hne2 e.symm)⟩, .inr ⟨rfl, ht2⟩⟩, G2⟩
  · have HDO := Lib.hid (fun fv => do_done g _ _ _ f fv w hLB)
    have hct := hLB.t (i := 262 + (a * 16 + b)) (by omega) (by omega)
    rw [tab_hi ht ha hb H.out, ← Nat.add_assoc] at hct
    clear h1 hLB hS hu hd hc0 h1' h2' fu fd
    go_enter Try.func18, Try.ntmps18
    go_wp2_with (first
      | (go_at_call_of 46 (Value.int IntKind.i64 (a : Int)); refine H1.out.mono ?_; rintro e w' ⟨rfl, rfl⟩)
      | (go_at_call 46; refine H2.out.mono ?_; rintro e w' ⟨rfl, rfl⟩)
      | (go_at_call 47; refine (HDO.out _).mono ?_; rintro e w' ⟨rfl, rfl⟩))
    go_ret
    exact ⟨rfl, ⟨1, f, ⟨A, c, gu, gd, HLB.out, HS.out, HU.out, HD.out⟩, .inr ⟨rfl, ht⟩⟩, ⟨rfl, rfl, rfl, Nat.le_refl _, fun _ _ _ => rfl⟩⟩
end Go.Proofs.Ytefnbjkmmmdagaa
