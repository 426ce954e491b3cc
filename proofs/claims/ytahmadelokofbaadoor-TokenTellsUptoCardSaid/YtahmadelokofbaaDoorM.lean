/- PROVED here: the chapter's examples: the contract of shown. No condition but those in each theorem's own head. -/
import Derived.Test.YtahmadelokofbaaDoorL
namespace Go.Proofs.YtahmadelokofbaaDoor
open Go Go.RowKit

def exT : List Tok := [⟨1, 0, 0, [120]⟩, ⟨3, 0, 1, [60, 61]⟩, ⟨3, 0, 3, [45]⟩, ⟨2, 12, 4, [49, 50]⟩, ⟨5, 0, 10, []⟩]
theorem ex1 : cutR [120, 60, 61, 45, 49, 50, 32, 35, 32, 121] 0 = .ok exT := by kernel_rfl
theorem ex2 : cutR [97, 32, 49, 98] 0 = .bad 2 := by kernel_rfl
theorem ex3 : cutR [97, 32, 36] 0 = .bad 2 := by kernel_rfl
theorem ex4 : cutR [48, 48, 55] 0 = .bad 0 := by kernel_rfl
def OkPost (ts : List Tok) (n : Nat) (w : World) (e : Ending) (w' : World) : Prop := ∃ A c, e = .returned (.tuple #[.slice A n c, .int .i64 0, .int .i64 0]) ∧ Toks w' A ts ∧ Below w.heap.size w w'
def BadPost (p : Int) (w : World) (e : Ending) (w' : World) : Prop := e = .returned (.tuple #[.slice none 0 0, .int .i64 p, .int .i64 2]) ∧ Below w.heap.size w w'
theorem post_ok {l : List UInt8} {ts : List Tok} {w : World} {e : Ending} {w' : World} (h : CutPost l w e w') (hr : cutR l 0 = .ok ts) : ∃ A c, e = .returned (.tuple #[.slice A ts.length c, .int .i64 0, .int .i64 0]) ∧ Toks w' A ts ∧ (∀ a, A = some a → w.heap.size ≤ a.block) ∧ w'.ownsRow w.heap.size 34 4 (.slice A ts.length c) ts.length (tfl ts) ∧ Below w.heap.size w w' := by
  obtain ⟨hb, h⟩ := h
  rw [hr] at h
  obtain ⟨A, c, h1, h2, h3, h4⟩ := h
  exact ⟨A, c, h1, h2, h3, h4, hb⟩
theorem post_bad {l : List UInt8} {p : Nat} {w : World} {e : Ending} {w' : World} (h : CutPost l w e w') (hr : cutR l 0 = .bad p) : e = .returned (.tuple #[.slice none 0 0, .int .i64 (p : Int), .int .i64 2]) ∧ Below w.heap.size w w' := by
  obtain ⟨hb, h⟩ := h
  rw [hr] at h
  exact ⟨h, hb⟩
theorem cut1 (w : World) (hE : Errs w) : Calls Tryd.prog 11 #[.string ⟨#[120, 60, 61, 45, 49, 50, 32, 35, 32, 121]⟩] w (OkPost exT 5 w) :=
  (cut_any ⟨#[120, 60, 61, 45, 49, 50, 32, 35, 32, 121]⟩ w hE (by decide)).mono fun _ _ h => by
    obtain ⟨A, c, h1, h2, _, _, hb⟩ := post_ok h ex1
    exact ⟨A, c, h1, h2, hb⟩
theorem cut2 (w : World) (hE : Errs w) : Calls Tryd.prog 11 #[.string ⟨#[97, 32, 49, 98]⟩] w (BadPost 2 w) :=
  (cut_any ⟨#[97, 32, 49, 98]⟩ w hE (by decide)).mono fun _ _ h => post_bad h ex2
theorem cut3 (w : World) (hE : Errs w) : Calls Tryd.prog 11 #[.string ⟨#[97, 32, 36]⟩] w (BadPost 2 w) :=
  (cut_any ⟨#[97, 32, 36]⟩ w hE (by decide)).mono fun _ _ h => post_bad h ex3
theorem cut4 (w : World) (hE : Errs w) : Calls Tryd.prog 11 #[.string ⟨#[48, 48, 55]⟩] w (BadPost 0 w) :=
  (cut_any ⟨#[48, 48, 55]⟩ w hE (by decide)).mono fun _ _ h => post_bad h ex4
theorem same5 (A B : Option Addr) (ca cb : Nat) (w : World) (hA : Toks w A exT) (hB : Toks w B exT) : Calls Tryd.prog 13 #[.slice A 5 ca, .slice B 5 cb] w fun e w' => e = .returned (.bool true) ∧ Below w.heap.size w w' :=
  (same_any A B ca cb exT exT w hA hB (by decide)).mono fun _ _ ⟨h1, n, h2⟩ => ⟨h1, by rw [h2]; exact below_drewN (Below.refl _ _) n⟩
def exC : Array Value := #[.int .i64 1, .int .i64 0, .int .i64 0, .string ⟨#[120]⟩, .int .i64 3, .int .i64 0, .int .i64 1, .string ⟨#[60, 61]⟩, .int .i64 3, .int .i64 0, .int .i64 3, .string ⟨#[45]⟩, .int .i64 2, .int .i64 12, .int .i64 4, .string ⟨#[49, 50]⟩, .int .i64 5, .int .i64 0, .int .i64 10, .string ⟨#[]⟩]
theorem exC_fl : exC.toList = tfl exT := by kernel_rfl
theorem exB (w : World) : Toks (w.alloc (.cells exC 34)) (some ⟨w.heap.size, 0, none⟩) exT := fun _ => by
  refine ⟨w.heap.size, 0, rfl, by simp, fun j hj i hi => ?_⟩
  rw [Nat.zero_add, ← tfl_get exT j hj i hi, ← exC_fl, cell_of_row (w.alloc (.cells exC 34)) w.heap.size (j * 4 + i) exC 34 (0, 0) (heap_alloc_new w _)]
  simp
set_option maxRecDepth 100000 in
set_option maxHeartbeats 4000000 in
theorem shown_any (w : World) (hE : Errs w) : Calls Tryd.prog 10 #[] w fun e w' => e = .returned (.bool true) ∧ Below w.heap.size w w' := by
  have HE := Lib.hid hE
  clear hE
  go_enter Tryd.func10, Tryd.ntmps10
  go_wp2_with (first | (go_at_call 11; refine (cut1 _ HE.out).mono ?_))
  rintro e w1 ⟨A, c, rfl, hT, hb1⟩
  have HT := Lib.hid hT
  clear hT
  go_wp2_with (first | (go_at_call 11; refine (cut2 _ (HE.out.below hb1)).mono ?_))
  rintro e w2 ⟨rfl, hb2⟩
  have hb2' := bt hb1 hb2
  go_wp2_with (first | (go_at_call 11; refine (cut3 _ (HE.out.below hb2')).mono ?_))
  rintro e w3 ⟨rfl, hb3⟩
  have hb3' := bt hb2' hb3
  go_wp2_with (first | (go_at_call 11; refine (cut4 _ (HE.out.below hb3')).mono ?_))
  rintro e w4 ⟨rfl, hb4⟩
  have hb4' := bt hb3' hb4
  have HT4 := Lib.hid ((((HT.out.below hb2).below hb3).below hb4))
  clear HT
  go_wp2_with (go_at_call 13; refine (same5 _ _ _ _ _ (HT4.out.below (heap1 _ _)) (exB _)).mono ?_; rintro e w5 ⟨rfl, hb5⟩)
  go_ret
  exact ⟨rfl, bt (bt hb4' (heap1 _ _)) hb5⟩
end Go.Proofs.YtahmadelokofbaaDoor
