/- PROVED here: what the chapter's examples are. No condition but those in each theorem's own head. -/
import Derived.Test.YtcnmkmdedeiffaaK
namespace Go.Proofs.Ytcnmkmdedeiffaa
open Go Go.RowKit

def xN (s : ByteArray) (k : Int) (ks : List Int) : Nd := ⟨k, 0, 0, s, ks⟩
def X0 : List Nd := [xN ⟨#[120]⟩ 22 []]
def X1 : List Nd := [xN ⟨#[120]⟩ 22 [], xN ⟨#[97]⟩ 7 [0]]
def X2 : List Nd := [xN ⟨#[120]⟩ 22 [], xN ⟨#[97]⟩ 7 [0], xN ⟨#[]⟩ 6 [1]]
theorem X0_eq : ovL 22 0 0 ⟨#[120]⟩ [] = X0 := rfl
theorem X1_eq : ovL 7 0 0 ⟨#[97]⟩ [(X0, 0)] = X1 := by kernel_rfl
theorem X2_eq : ovL 6 0 0 ⟨#[]⟩ [(X1, 1)] = X2 := by kernel_rfl
theorem X2_sd : Sd X2 2 (fun _ => 0) := by
  refine ⟨by decide, by decide, by decide, fun p hp => ?_, rfl⟩
  match p, hp with
  | 0, _ => rfl
  | 1, _ => rfl
  | 2, _ => rfl
theorem X2_dp : dpt X2 2 = 3 := by rw [dpt_yes ⟨_, X2_sd⟩]; rfl
theorem X2_par : par X2 2 = [1, 2, -1] := by rw [par_yes ⟨_, X2_sd⟩]; rfl
theorem X_ks : ∀ x ∈ X2, x.ks.length ≤ 4000 := by
  intro x hx
  simp [X2, xN] at hx
  rcases hx with rfl | rfl | rfl <;> decide
theorem X1_ks : ∀ x ∈ X1, x.ks.length ≤ 4000 := fun x hx => by
  simp [X1, xN] at hx
  rcases hx with rfl | rfl <;> decide
theorem X0_ks : ∀ x ∈ X0, x.ks.length ≤ 4000 := fun x hx => by
  simp [X0, xN] at hx
  rcases hx with rfl <;> decide
/-- a slice of one tree in a block of its own -/
theorem trs_one {w : World} {A : Option Addr} {c n : Nat} {l : List Nd} {r : Int} (hN : Nds w A l) (hn : n = l.length) (hc : n ≤ c) : Trs (w.alloc (.cells #[.slice A n c, .int .i64 r] 30)) (some ⟨w.heap.size, 0, none⟩) [(l, r)] := fun _ => by
  have hB := Bx.new w 30 [.slice A n c, .int .i64 r]
  subst hn
  refine ⟨_, _, rfl, hB.lt, fun j hj => ?_⟩
  obtain rfl : j = 0 := by simp at hj; omega
  exact ⟨A, c, hB.cell 0, hB.cell 1, hN.below (heap1 _ _), hc⟩
theorem over_nil (kd nn pl : Int) (tx : ByteArray) (K0 : Option Addr) (n0 c0 : Nat) (w : World) : Calls Try.prog 10 #[.agg #[.int .i64 kd, .int .i64 nn, .int .i64 pl, .string tx, .slice K0 n0 c0], .slice none 0 0] w (TPost (ovL kd nn pl tx []) 0 w) :=
  over_any kd nn pl tx K0 n0 c0 none 0 0 [] w (fun h => absurd h (Nat.lt_irrefl 0)) rfl (by omega) (fun t ht => by cases ht) (by decide) (fun i => by rw [List.take_nil]; decide)
theorem ovA_one (l : List Nd) (r : Int) : (ovA [(l, r)]).length = l.length := by
  show ([] ++ l.map (mvN _)).length = _
  simp
theorem over_one (kd nn pl : Int) (tx : ByteArray) (K0 : Option Addr) (n0 c0 : Nat) (A : Option Addr) (m c : Nat) (l : List Nd) (r : Int) (w : World) (hT : Trs w A [(l, r)]) (hm : m = 1) (hl : l.length ≤ 4000) (hk : ∀ x ∈ l, x.ks.length ≤ 4000) :
    Calls Try.prog 10 #[.agg #[.int .i64 kd, .int .i64 nn, .int .i64 pl, .string tx, .slice K0 n0 c0], .slice A m c] w (TPost (ovL kd nn pl tx [(l, r)]) (l.length : Int) w) := by
  have ht : ∀ t ∈ [(l, r)], t.1.length ≤ 4000 ∧ ∀ x ∈ t.1, x.ks.length ≤ 4000 := fun t ht => by
    obtain rfl : t = (l, r) := by simpa using ht
    exact ⟨hl, hk⟩
  have := over_any kd nn pl tx K0 n0 c0 A m c [(l, r)] w hT (by rw [hm]; rfl) (by omega) ht (by rw [ovA_one]; omega) (fun i => by
    match i with
    | 0 => rw [List.take_zero]; decide
    | i + 1 => rw [List.take_of_length_le (by simp)]; rw [ovA_one]; omega)
  rw [ovA_one] at this
  exact this
end Go.Proofs.Ytcnmkmdedeiffaa
