/- PROVED here: the contracts of sync.Once's Do at a lattice, one goroutine. No condition but those in each theorem's own head. -/
import Derived.Test.YtefnbjkmmmdagaaK
import Derived.Defers
import Derived.Laws.Pointers
import Derived.Laws.LoneSync
import Derived.RegionCalls
import Derived.ChangeAlike
namespace Go.Proofs.Ytefnbjkmmmdagaa
open Go Go.RowKit

theorem disable (w : World) : (callFunc 65 #[]).run Try.prog w = .ok (.value (.tuple #[])) w := run_call_mark0 Try.func65 (by kernel_rfl) (by kernel_rfl) (by kernel_rfl) .disable (by kernel_rfl) w
theorem enable (w : World) : (callFunc 67 #[]).run Try.prog w = .ok (.value (.tuple #[])) w := run_call_mark0 Try.func67 (by kernel_rfl) (by kernel_rfl) (by kernel_rfl) .enable (by kernel_rfl) w
theorem acquire (a : Addr) (w : World) : (callFunc 68 #[.pointer (some a)]).run Try.prog w = .ok (.value (.tuple #[])) w := run_call_marked Try.func68 (by kernel_rfl) (by kernel_rfl) (by kernel_rfl) .acquire (by kernel_rfl) a w
theorem releaseMerge (a : Addr) (w : World) : (callFunc 70 #[.pointer (some a)]).run Try.prog w = .ok (.value (.tuple #[])) w := run_call_marked Try.func70 (by kernel_rfl) (by kernel_rfl) (by kernel_rfl) .releaseMerge (by kernel_rfl) a w

/-- 'done' is stored, as a deferred call -/
theorem store_deferred (a : Addr) (x : Value) (u : FrameMode) (w : World) (hc : w.cell? a = some x) (hz : w.frozen? a = false) :
    CallsD Try.prog 60 #[.pointer (some a), .bool true] u w fun e u' w' => u' = u ∧ (e = .returned (.tuple #[]) ∧ w' = w.drew.setCell a (.int .u32 1)) := by
  have hc' : w.drew.cell? a = some x := by go_simp
  have hz' : w.drew.frozen? a = false := by go_simp
  have hst := run_call_store (P := Try.prog) Try.func63 (by kernel_rfl) (by kernel_rfl) (by kernel_rfl) (by kernel_rfl) (k := .u32) (y := 1) hc' hz'
  go_enter_d Try.func60, Try.ntmps60
  go_wp2
  go_region_calls
  all_goals (go_end0; exact ⟨rfl, rfl⟩)
set_option maxRecDepth 100000 in
/-- the lock is let go, as a deferred call -/
theorem unlock_deferred (a : Addr) (u : FrameMode) (w : World) (hc : w.cell? a = some (.int .i32 1)) (hz : w.frozen? a = false) :
    CallsD Try.prog 59 #[.pointer (some a)] u w fun e u' w' => u' = u ∧ (e = .returned (.tuple #[]) ∧ w' = w.setCell a (.int .i32 0)) := by
  have hd := disable
  have he := enable
  have hr := releaseMerge
  have hadd := run_call_add (P := Try.prog) Try.func71 (by kernel_rfl) (by kernel_rfl) (by kernel_rfl) .i32 (by kernel_rfl) (y := -1) (s := 0) hc hz (by simp [go_sem]; rfl)
  have hcv := run_convert_to_unsafe (P := Try.prog) (src := 96) (dst := 100) Try.underlying96 Try.underlying100 (by kernel_rfl) hc
  go_enter_d Try.func59, Try.ntmps59
  go_wp2
  go_end0
  go_wp2
  go_end0
  exact ⟨rfl, rfl⟩
set_option maxRecDepth 100000 in
/-- the lock is taken -/
theorem lock_free (a : Addr) (w : World) (hc : w.cell? a = some (.int .i32 0)) (hz : w.frozen? a = false) :
    Calls Try.prog 58 #[.pointer (some a)] w fun e w' => e = .returned (.tuple #[]) ∧ w' = w.setCell a (.int .i32 1) := by
  have hd := disable
  have he := enable
  have ha := acquire
  have hcas := run_call_cas_hit (P := Try.prog) Try.func66 (by kernel_rfl) (by kernel_rfl) (by kernel_rfl) .i32 (by kernel_rfl) (y := 1) hc hz
  have hc' : (w.setCell a (.int .i32 1)).cell? a = some (.int .i32 1) := World.cell?_setCell_same w a _ hc
  have hcv := run_convert_to_unsafe (P := Try.prog) (src := 96) (dst := 100) Try.underlying96 Try.underlying100 (by kernel_rfl) hc'
  go_enter Try.func58, Try.ntmps58
  go_wp2
  first | go_end0 | (simp only [Exit.inBlock, Exit.then]; refine bodyPost_ret (results_none rfl _ _ _) rfl ?_) | refine bodyPost_ret (results_none rfl _ _ _) rfl ?_
  go_wp2
  go_end0
  exact ⟨rfl, rfl⟩
theorem load0 (a : Addr) (w : World) (hc : w.cell? a = some (.int .u32 0)) : Calls Try.prog 54 #[.pointer (some a)] w fun e w' => e = .returned (.bool false) ∧ w = w' := by
  have hl := run_call_load (P := Try.prog) Try.func57 (by kernel_rfl) (by kernel_rfl) (by kernel_rfl) .u32 (by kernel_rfl) hc
  go_enter Try.func54, Try.ntmps54
  go_wp2
  go_ret
  exact ⟨rfl, rfl⟩
theorem load1 (a : Addr) (w : World) (hc : w.cell? a = some (.int .u32 1)) : Calls Try.prog 54 #[.pointer (some a)] w fun e w' => e = .returned (.bool true) ∧ w = w' := by
  have hl := run_call_load (P := Try.prog) Try.func57 (by kernel_rfl) (by kernel_rfl) (by kernel_rfl) .u32 (by kernel_rfl) hc
  go_enter Try.func54, Try.ntmps54
  go_wp2
  go_ret
  exact ⟨rfl, rfl⟩
theorem LB.c3 {w : World} {g : Nat} {v1 v2 v3 : Value} {dn : Nat} {st : Int} {f : Nat → Int} (h : LB w g v1 v2 v3 dn st f) : w.cell? ⟨g, 3, none⟩ = some (.int .u32 (dn : Int)) := by rw [h.cell, latS_h (by omega)]; rfl
theorem LB.c4 {w : World} {g : Nat} {v1 v2 v3 : Value} {dn : Nat} {st : Int} {f : Nat → Int} (h : LB w g v1 v2 v3 dn st f) : w.cell? ⟨g, 4, none⟩ = some (.int .i32 st) := by rw [h.cell, latS_h (by omega)]; rfl
/-- behind the first call of Do -/
def OncePost (g n : Nat) (v1 v2 v3 : Value) (u d : Nat → Nat) (w : World) (e : Ending) (w' : World) : Prop := e = .returned (.tuple #[]) ∧ ∃ f', Tab n u d f' ∧ LB w' g v1 v2 v3 1 0 f' ∧ w.grownBy w' (some g)
set_option maxRecDepth 100000 in
set_option maxHeartbeats 2000000 in
theorem slow_any (g gu gd n : Nat) (v1 : Value) (f : Nat → Int) (u d : Nat → Nat) (hn : n ≤ 16) (fu : Fit n u) (fd : Fit n d) (w : World) (hne1 : g ≠ gu) (hne2 : g ≠ gd)
    (hL : LB w g v1 (.slice (some ⟨gu, 0, none⟩) n n) (.slice (some ⟨gd, 0, none⟩) n n) 0 0 f) (hu : Mb w gu n u) (hd : Mb w gd n d) :
    Calls Try.prog 55 #[.pointer (some ⟨g, 3, none⟩), .func (.func 48) #[.pointer (some ⟨g, 0, none⟩)] #[]] w (OncePost g n v1 (.slice (some ⟨gu, 0, none⟩) n n) (.slice (some ⟨gd, 0, none⟩) n n) u d w) := by
  have L1 := hL.set4 1
  have hnot : ∀ (x : Bool) (w : World), (Op.unary .not (.bool x)).run Try.prog w = .ok (.bool (!x)) w := fun _ _ => rfl
  have c4 := hL.c4
  have f4 := hL.frozen 4
  have U1 : Mb (w.setCell ⟨g, 4, none⟩ (.int .i32 1)) gu n u := hu.far (fun e => hne1 e.symm) _
  have D1 : Mb (w.setCell ⟨g, 4, none⟩ (.int .i32 1)) gd n d := hd.far (fun e => hne2 e.symm) _
  have G1 : w.grownBy (w.setCell ⟨g, 4, none⟩ (.int .i32 1)) (some g) := grown_set ⟨rfl, rfl, rfl, Nat.le_refl _, fun _ _ _ => rfl⟩ _
  have HF := Lib.hid (fun w h1 h2 h3 => fill_any g gu gd n 0 v1 1 f u d hn fu fd w hne2 h1 h2 h3)
  go_enter_defers Try.func55, Try.ntmps55
  go_wp2_with (first
    | (go_at_call 58; refine (lock_free ⟨g, 4, none⟩ _ c4 f4).mono ?_; rintro e w' ⟨rfl, rfl⟩)
    | (go_at_call 54; refine (load0 ⟨g, 3, none⟩ _ L1.c3).mono ?_; rintro e w' ⟨rfl, rfl⟩)
    | (go_at_call 48; refine (HF.out _ L1 U1 D1).mono ?_; rintro e w2 ⟨rfl, f2, ht2, L2, G2⟩))
  refine leaves_cons (f := 60) (args := #[.pointer (some ⟨g, 3, none⟩), .bool true]) (by simp) (by simp [go_sem]) ?_
  refine (store_deferred ⟨g, 3, none⟩ (.int .u32 0) .returning _ L2.c3 (L2.frozen 3)).mono ?_
  rintro e u' w'' ⟨rfl, rfl, rfl⟩
  have L2d : LB w2.drew g v1 (.slice (some ⟨gu, 0, none⟩) n n) (.slice (some ⟨gd, 0, none⟩) n n) 0 1 f2 := L2
  have L3 := L2d.set3 1
  refine leaves_cons (f := 59) (args := #[.pointer (some ⟨g, 4, none⟩)]) (by simp [settle]) (by simp [go_sem]) ?_
  refine (unlock_deferred ⟨g, 4, none⟩ _ _ L3.c4 (L3.frozen 4)).mono ?_
  rintro e u' w'' ⟨rfl, rfl, rfl⟩
  have G3 : w.grownBy ((w2.drew.setCell ⟨g, 3, none⟩ (.int .u32 1)).setCell ⟨g, 4, none⟩ (.int .i32 0)) (some g) := grown_set (grown_set (grown_drew (G1.trans G2)) _) _
  have hP : OncePost g n v1 (.slice (some ⟨gu, 0, none⟩) n n) (.slice (some ⟨gd, 0, none⟩) n n) u d w (.returned (.tuple #[])) ((w2.drew.setCell ⟨g, 3, none⟩ (.int .u32 1)).setCell ⟨g, 4, none⟩ (.int .i32 0)) := ⟨rfl, f2, ht2, L3.set4 0, G3⟩
  simpa [Leaves, settle, results, Try.results55] using hP
set_option maxRecDepth 100000 in
theorem do_first (g gu gd n : Nat) (v1 : Value) (f : Nat → Int) (u d : Nat → Nat) (hn : n ≤ 16) (fu : Fit n u) (fd : Fit n d) (w : World) (hne1 : g ≠ gu) (hne2 : g ≠ gd)
    (hL : LB w g v1 (.slice (some ⟨gu, 0, none⟩) n n) (.slice (some ⟨gd, 0, none⟩) n n) 0 0 f) (hu : Mb w gu n u) (hd : Mb w gd n d) :
    Calls Try.prog 47 #[.pointer (some ⟨g, 3, none⟩), .func (.func 48) #[.pointer (some ⟨g, 0, none⟩)] #[]] w (OncePost g n v1 (.slice (some ⟨gu, 0, none⟩) n n) (.slice (some ⟨gd, 0, none⟩) n n) u d w) := by
  have HL := Lib.hid hL
  have HS := Lib.hid (slow_any g gu gd n v1 f u d hn fu fd w hne1 hne2 hL hu hd)
  have hnot : ∀ (x : Bool) (w : World), (Op.unary .not (.bool x)).run Try.prog w = .ok (.bool (!x)) w := fun _ _ => rfl
  clear hL hu hd fu fd
  go_enter Try.func47, Try.ntmps47
  go_wp2_with (first
    | (go_at_call 54; refine (load0 ⟨g, 3, none⟩ _ HL.out.c3).mono ?_; rintro e w' ⟨rfl, rfl⟩)
    | (go_at_call 55; refine HS.out.mono ?_; rintro e w2 ⟨rfl, hP⟩))
  go_end0
  exact ⟨rfl, hP⟩
theorem do_done (g : Nat) (v1 v2 v3 : Value) (f : Nat → Int) (fv : Value) (w : World) (hL : LB w g v1 v2 v3 1 0 f) :
    Calls Try.prog 47 #[.pointer (some ⟨g, 3, none⟩), fv] w fun e w' => e = .returned (.tuple #[]) ∧ w = w' := by
  have HL := Lib.hid hL
  have hnot : ∀ (x : Bool) (w : World), (Op.unary .not (.bool x)).run Try.prog w = .ok (.bool (!x)) w := fun _ _ => rfl
  clear hL
  go_enter Try.func47, Try.ntmps47
  go_wp2_with (go_at_call 54; refine (load1 ⟨g, 3, none⟩ _ HL.out.c3).mono ?_; rintro e w' ⟨rfl, rfl⟩)
  go_end0
  exact ⟨rfl, rfl⟩
end Go.Proofs.Ytefnbjkmmmdagaa
