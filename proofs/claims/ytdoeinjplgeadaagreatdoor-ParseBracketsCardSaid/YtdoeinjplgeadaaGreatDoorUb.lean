/- PROVED here: contracts of slices.Equal, of sameNode, of slices.EqualFunc and of Same, at trees that are the same but for places. No condition but those in each theorem's own head. -/
import Derived.Test.YtdoeinjplgeadaaGreatDoorUa
import Derived.Test.YtdoeinjplgeadaaGreatDoorQn
import Derived.BigQuiet
namespace Go.Proofs.YtdoeinjplgeadaaGreatDoor
open Go Go.RowKit
open Tr (Bx heap1 bt gen_world ret_int ret_bool cell_same Nds Ints)

set_option maxRecDepth 100000 in
set_option maxHeartbeats 1500000 in
theorem ints_same (K M : Option Addr) (n c d : Nat) (ks : List Int) (w : World) (hK : Ints w K ks) (hM : Ints w M ks) (hn : n = ks.length) (hl : n ≤ 100000) : Calls Tryz.prog 65 #[.slice K n c, .slice M n d] w (Tr.BPost true w) := by
  have HK := Lib.hid hK
  have HM := Lib.hid hM
  have HN := Lib.hid hn
  clear hK hM hn
  go_enter Tryz.func65, Tryz.ntmps65
  go_wp2
  go_loopg [13] n (fun g a13 wr => ∃ i : Nat, a13 = .int .i64 (i : Int) ∧ i ≤ n ∧ g = n - i ∧ Below w.heap.size w wr)
  case atStart => exact ⟨0, rfl, Nat.zero_le _, rfl, Below.refl _ _⟩
  case round =>
    obtain ⟨i, rfl, hi, rfl, hb⟩ := hrel
    have HB := Lib.hid hb
    by_cases hlt : i < n
    · have hlz : (i : Int) < (n : Int) := by omega
      have hik : i < ks.length := by rw [← HN.out]; exact hlt
      obtain ⟨bK, oK, rfl, lK, cK⟩ := HK.out (by omega)
      obtain ⟨bM, oM, rfl, lM, cM⟩ := HM.out (by omega)
      obtain ⟨x, hx⟩ : ∃ x, x = ks[i] := ⟨_, rfl⟩
      have c1 : wr.cell? ⟨bK, oK + i, none⟩ = some (.int .i64 x) := (HB.out.cell (p := ⟨bK, oK + i, none⟩) lK).trans (by rw [hx]; exact cK i hik)
      have c2 : wr.cell? ⟨bM, oM + i, none⟩ = some (.int .i64 x) := (HB.out.cell (p := ⟨bM, oM + i, none⟩) lM).trans (by rw [hx]; exact cM i hik)
      clear cK cM lK lM hx hb
      go_wp2_with fail
      go_quiet (fail)
      go_wp2
      go_roundg (n - (i + 1))
      case measure => go_light; omega
      case rel =>
        go_light
        exact ⟨i + 1, by go_num, by omega, rfl, Tk.below_drewN HB.out _⟩
    · have hlz : ¬ (i : Int) < (n : Int) := by omega
      clear hi hlt hb
      go_wp2
      go_ret
      exact ⟨rfl, HB.out⟩
set_option maxRecDepth 100000 in
set_option maxHeartbeats 1500000 in
theorem node_same (K M : Option Addr) (m c d : Nat) (ks : List Int) (kd n pl pl' : Int) (tx : ByteArray) (w : World) (hK : Ints w K ks) (hM : Ints w M ks) (hm : m = ks.length) (hl : m ≤ 100000) : Calls Tryz.prog 34 #[.agg #[.int .i64 kd, .int .i64 n, .int .i64 pl, .string tx, .slice K m c], .agg #[.int .i64 kd, .int .i64 n, .int .i64 pl', .string tx, .slice M m d]] w (Tr.BPost true w) := by
  have HI := Lib.hid (fun w' (q : Below w.heap.size w w') => ints_same K M m c d ks w' (hK.below q) (hM.below q) hm hl)
  clear hK hM hm hl
  go_enter Tryz.func34, Tryz.ntmps34
  go_wp2_with (go_at_call 65; refine (HI.out _ (bt (heap1 _ _) (heap1 _ _))).mono ?_; rintro e w1 ⟨rfl, hb1⟩)
  go_ret
  exact ⟨rfl, bt (bt (heap1 _ _) (heap1 _ _)) hb1⟩
/-- nodes that are the same but for places -/
def LikeN (l m : List Tr.Nd) : Prop := l.map (fun x => (x.kd, x.n, x.tx, x.ks)) = m.map (fun x => (x.kd, x.n, x.tx, x.ks))
theorem LikeN.at_ {l m : List Tr.Nd} (h : LikeN l m) (i : Nat) (hi : i < l.length) : ∃ hj : i < m.length, l[i].kd = m[i].kd ∧ l[i].n = m[i].n ∧ l[i].tx = m[i].tx ∧ l[i].ks = m[i].ks := by
  have hl : l.length = m.length := by have := congrArg List.length h; simpa using this
  refine ⟨hl ▸ hi, ?_⟩
  have e := congrArg (fun z => z[i]?) h
  simp only [List.getElem?_map, List.getElem?_eq_getElem hi, List.getElem?_eq_getElem (hl ▸ hi), Option.map_some, Option.some.injEq, Prod.mk.injEq] at e
  exact e
theorem run_load39c {w : World} {b off : Nat} {a1 a2 a3 : Int} {s : ByteArray} {n c : Nat} {A : Option Addr} (h0 : w.cell? ⟨b, off, none⟩ = some (.int .i64 a1)) (h1 : w.cell? ⟨b, off + 1, none⟩ = some (.int .i64 a2)) (h2 : w.cell? ⟨b, off + 2, none⟩ = some (.int .i64 a3)) (h3 : w.cell? ⟨b, off + 3, none⟩ = some (.string s)) (h4 : w.cell? ⟨b, off + 4, none⟩ = some (.slice A n c)) : (Instr.loadAt 39 (.pointer (some ⟨b, off, none⟩))).run Tryz.prog w = .ok (.agg #[.int .i64 a1, .int .i64 a2, .int .i64 a3, .string s, .slice A n c]) w := by
  simp [go_sem, h0, h1, h2, h3, h4, Addr.add]
set_option maxRecDepth 100000 in
set_option maxHeartbeats 1500000 in
theorem eqf_same (A B : Option Addr) (n c d : Nat) (l m : List Tr.Nd) (w : World) (hA : Nds w A l) (hB : Nds w B m) (hL : LikeN l m) (hn : n = l.length) (hl : n ≤ 4000) (hk : ∀ x ∈ l, x.ks.length ≤ 4000) : Calls Tryz.prog 33 #[.slice A n c, .slice B n d, .func (.func 34) #[] #[]] w (Tr.BPost true w) := by
  have HA := Lib.hid hA
  have HB := Lib.hid hB
  have HL := Lib.hid hL
  have HN := Lib.hid hn
  have HK := Lib.hid hk
  clear hA hB hL hn hk
  go_enter Tryz.func33, Tryz.ntmps33
  go_wp2
  go_loopg [17] n (fun g a17 wr => ∃ i : Nat, a17 = .int .i64 (i : Int) ∧ i ≤ n ∧ g = n - i ∧ Below w.heap.size w wr)
  case atStart => exact ⟨0, rfl, Nat.zero_le _, rfl, Below.refl _ _⟩
  case round =>
    obtain ⟨i, rfl, hi, rfl, hb⟩ := hrel
    have HW := Lib.hid hb
    by_cases hlt : i < n
    · have hlz : (i : Int) < (n : Int) := by omega
      have hil : i < l.length := by rw [← HN.out]; exact hlt
      obtain ⟨him, e1, e2, e3, e4⟩ := HL.out.at_ i hil
      obtain ⟨b1, o1, rfl, l1, q1⟩ := HA.out (by omega)
      obtain ⟨b2, o2, rfl, l2, q2⟩ := HB.out (by omega)
      obtain ⟨K, cK, k0, k1, k2, k3, k4, hK⟩ := q1 i hil
      obtain ⟨M, cM, m0, m1, m2, m3, m4, hM⟩ := q2 i him
      rw [← e1] at m0
      rw [← e2] at m1
      rw [← e3] at m3
      rw [← e4] at m4 hM
      have hkl := HK.out _ (List.getElem_mem hil)
      have ck0 := (hb.cell (p := ⟨b1, o1 + i * 5, none⟩) l1).trans k0
      have ck1 := (hb.cell (p := ⟨b1, o1 + i * 5 + 1, none⟩) l1).trans k1
      have ck2 := (hb.cell (p := ⟨b1, o1 + i * 5 + 2, none⟩) l1).trans k2
      have ck3 := (hb.cell (p := ⟨b1, o1 + i * 5 + 3, none⟩) l1).trans k3
      have ck4 := (hb.cell (p := ⟨b1, o1 + i * 5 + 4, none⟩) l1).trans k4
      have cm0 := (hb.cell (p := ⟨b2, o2 + i * 5, none⟩) l2).trans m0
      have cm1 := (hb.cell (p := ⟨b2, o2 + i * 5 + 1, none⟩) l2).trans m1
      have cm2 := (hb.cell (p := ⟨b2, o2 + i * 5 + 2, none⟩) l2).trans m2
      have cm3 := (hb.cell (p := ⟨b2, o2 + i * 5 + 3, none⟩) l2).trans m3
      have cm4 := (hb.cell (p := ⟨b2, o2 + i * 5 + 4, none⟩) l2).trans m4
      have lt1 : b1 < wr.heap.size := Nat.lt_of_lt_of_le l1 hb.size
      have lt2 : b2 < wr.heap.size := Nat.lt_of_lt_of_le l2 hb.size
      have HC := Lib.hid (fun w' (q : Below w.heap.size w w') => node_same K M l[i].ks.length cK cM l[i].ks l[i].kd l[i].n l[i].pl m[i].pl l[i].tx w' (hK.below q) (hM.below q) rfl (by omega))
      generalize l[i].kd = kd at *
      generalize l[i].n = nn at *
      generalize l[i].pl = pl at *
      generalize m[i].pl = pl2 at *
      generalize l[i].tx = tx at *
      generalize l[i].ks.length = kl at *
      clear e1 e2 e3 e4 q1 q2 k0 k1 k2 k3 k4 m0 m1 m2 m3 m4 hK hM hb l1 l2
      clear hkl hil him hi
      go_wp2_with (go_at_call 34; refine (HC.out _ (bt HW.out (bt (heap1 _ _) (heap1 _ _)))).mono ?_; rintro e w1 ⟨rfl, hb1⟩)
      go_roundg (n - (i + 1))
      case measure => go_light; omega
      case rel =>
        go_light
        exact ⟨i + 1, by go_num, by omega, rfl, bt (bt HW.out (bt (heap1 _ _) (heap1 _ _))) hb1⟩
    · have hlz : ¬ (i : Int) < (n : Int) := by omega
      clear hi hlt hb
      go_wp2
      go_ret
      exact ⟨rfl, HW.out⟩
set_option maxRecDepth 100000 in
set_option maxHeartbeats 1500000 in
theorem same_any (A B : Option Addr) (n c d : Nat) (r : Int) (l m : List Tr.Nd) (w : World) (hA : Nds w A l) (hB : Nds w B m) (hL : LikeN l m) (hn : n = l.length) (hl : n ≤ 4000) (hk : ∀ x ∈ l, x.ks.length ≤ 4000) : Calls Tryz.prog 15 #[.agg #[.slice A n c, .int .i64 r], .agg #[.slice B n d, .int .i64 r]] w (Tr.BPost true w) := by
  have HE := Lib.hid (fun w' (q : Below w.heap.size w w') => eqf_same A B n c d l m w' (hA.below q) (hB.below q) hL hn hl hk)
  clear hA hB hL hn hl hk
  go_enter Tryz.func15, Tryz.ntmps15
  go_wp2_with (go_at_call 33; refine (HE.out _ (bt (heap1 _ _) (heap1 _ _))).mono ?_; rintro e w1 ⟨rfl, hb1⟩)
  go_ret
  exact ⟨rfl, bt (bt (heap1 _ _) (heap1 _ _)) hb1⟩
end Go.Proofs.YtdoeinjplgeadaaGreatDoor
