/- PROVED here: parts Ee of the claim. No condition but those in each theorem's own head. -/
import Derived.Test.YtignojhijmamhaaK39
namespace Go.Proofs.Ytignojhijmamhaa
open Go Go.RowKit Go.Sort
open Va (ap hpu h_one Bx heap1 bt VP VI V2 V3 str_eq str_ne below2 Hp C46 unR binR getV lenH tB)
open Ty (TT tpT pcT)
open Ty.Tr (Nd)
noncomputable def mdV (l : List Nd) (r : Int) (ns : List NV) (L : List (List Int)) (p : Nat) (q : Nd) (k1 n1 k2 n2 : Int) : (Int × Int) × Int :=
  if q.kd = 20 then ((1, q.n), 0) else if q.kd = 21 then ((2, q.n), 0) else if q.kd = 22 then (named ns q.tx, 0)
  else if q.kd = 23 then getV L (named ns q.tx).1 (named ns q.tx).2 k1 n1
  else if q.kd = 24 then ((1, lenH L (named ns q.tx).1 (named ns q.tx).2), 0)
  else if q.kd = 25 then ((4, wrap64 (1 + pcT l r q.tx)), 0)
  else opV l r p q k1 n1 k2 n2
def S3 (b z : Nat) (c77 c96 c66 : List Value) (W : World) : Prop := Bx W b 67 c77 ∧ Bx W (b + 1) 93 c96 ∧ Bx W z 55 c66
theorem S3.below {b z : Nat} {c77 c96 c66 : List Value} {W W' : World} (h : S3 b z c77 c96 c66 W) (k : Below W.heap.size W W') : S3 b z c77 c96 c66 W' := ⟨h.1.below k h.1.lt, h.2.1.below k h.2.1.lt, h.2.2.below k h.2.2.lt⟩
theorem S3.far {b z g i : Nat} {c77 c96 c66 : List Value} {W : World} (h : S3 b z c77 c96 c66 W) (h1 : b ≠ g) (h2 : b + 1 ≠ g) (h3 : z ≠ g) (u : Value) : S3 b z c77 c96 c66 (W.setCell ⟨g, i, none⟩ u) := ⟨h.1.far (p := ⟨g, i, none⟩) h1 u, h.2.1.far (p := ⟨g, i, none⟩) h2 u, h.2.2.far (p := ⟨g, i, none⟩) h3 u⟩
section
variable {w : World} {A : Option Addr} {n : Nat} {l : List Nd} {B : Option Addr} {ns : List NV} {base g : Nat} {v : Value} {vs : List Value} {L : List (List Int)}
set_option maxRecDepth 100000 in
set_option maxHeartbeats 2000000 in
theorem made_any (h : Sc w A n l B ns base g v vs L) (c d : Nat) (r : Int) (p : Nat) (hp : p < n) (hk : 20 ≤ (l[p]'(by rw [← h.tt.len]; exact hp)).kd ∧ (l[p]'(by rw [← h.tt.len]; exact hp)).kd ≤ 27) (h21 : (l[p]'(by rw [← h.tt.len]; exact hp)).kd = 21 → (l[p]'(by rw [← h.tt.len]; exact hp)).n = 0 ∨ (l[p]'(by rw [← h.tt.len]; exact hp)).n = 1) (k1 n1 k2 n2 : Int) :
    Calls Try.prog 45 #[.agg (scn A n c r B ns.length d g), .int .i64 (p : Int), .agg #[.int .i64 k1, .int .i64 n1, .int .i64 k2, .int .i64 n2]] w (VI (mdV l r ns L p (l[p]'(by rw [← h.tt.len]; exact hp)) k1 n1 k2 n2).1.1 (mdV l r ns L p (l[p]'(by rw [← h.tt.len]; exact hp)) k1 n1 k2 n2).1.2 (mdV l r ns L p (l[p]'(by rw [← h.tt.len]; exact hp)) k1 n1 k2 n2).2 w) := by
  have hpl : p < l.length := by rw [← h.tt.len]; exact hp
  obtain ⟨q, hq⟩ : ∃ q, l[p]'hpl = q := ⟨_, rfl⟩
  have htx : q.tx.size ≤ 9223372036854775807 := h.tt.text q (by rw [← hq]; exact List.getElem_mem hpl)
  have HOP := Lib.hid (fun (W : World) (b : Below w.heap.size w W) (h2 : q.kd = 26 ∨ q.kd = 27) => show Calls Try.prog 65 #[.agg (scn A n c r B ns.length d g), .int .i64 (p : Int), .agg #[.int .i64 k1, .int .i64 n1, .int .i64 k2, .int .i64 n2]] W (VI (opV l r p q k1 n1 k2 n2).1.1 (opV l r p q k1 n1 k2 n2).1.2 (opV l r p q k1 n1 k2 n2).2 W) from by subst hq; exact operated_any (h.below b) c d r p hp h2 k1 n1 k2 n2)
  have HVR := Lib.hid (fun (W : World) (b : Below w.heap.size w W) (s : ByteArray) => variable_any (h.below b).nm h.few A n c d g r s)
  have HGT := Lib.hid (fun (W : World) (b : Below w.heap.size w W) (k n j i : Int) => Va.get_any (h.below b).hp k n j i)
  have HLN := Lib.hid (fun (W : World) (b : Below w.heap.size w W) (k n : Int) => Va.len_any (h.below b).hp k n)
  have HNB := Lib.hid (fun (n : Int) (W : World) => (Va.number_any n W).mono fun e w' q => show VP 1 n W e w' from ⟨q.1, by rw [q.2]; exact heap1 _ _⟩)
  unfold scn at HOP HVR
  rw [hq] at hk h21 ⊢
  unfold scn
  obtain ⟨m, hm⟩ : ∃ m, ns.length = m := ⟨_, rfl⟩
  rw [hm] at HOP HVR ⊢
  have hX0 := ((Bx.new w 67 [.slice A n c, .int .i64 r, .slice B m d, .pointer (some ⟨g, 0, none⟩)]).alloc (.cells #[.int .i64 k1, .int .i64 n1, .int .i64 k2, .int .i64 n2] 93)).alloc (.cells #[.int .i64 0, .int .i64 0] 41)
  have hX1 := (Bx.new (w.alloc (.cells #[.slice A n c, .int .i64 r, .slice B m d, .pointer (some ⟨g, 0, none⟩)] 67)) 93 [.int .i64 k1, .int .i64 n1, .int .i64 k2, .int .i64 n2]).alloc (.cells #[.int .i64 0, .int .i64 0] 41)
  have hX2 := Bx.new ((w.alloc (.cells #[.slice A n c, .int .i64 r, .slice B m d, .pointer (some ⟨g, 0, none⟩)] 67)).alloc (.cells #[.int .i64 k1, .int .i64 n1, .int .i64 k2, .int .i64 n2] 93)) 41 [.int .i64 0, .int .i64 0]
  simp only [World.size_alloc] at hX1 hX2
  have hb0 : Below w.heap.size w (((w.alloc (.cells #[.slice A n c, .int .i64 r, .slice B m d, .pointer (some ⟨g, 0, none⟩)] 67)).alloc (.cells #[.int .i64 k1, .int .i64 n1, .int .i64 k2, .int .i64 n2] 93)).alloc (.cells #[.int .i64 0, .int .i64 0] 41)) := ((heap1 _ _).alloc (by simp only [World.size_alloc]; omega) _).alloc (by simp only [World.size_alloc]; omega) _
  obtain ⟨W0, hW0⟩ : ∃ W0, (((w.alloc (.cells #[.slice A n c, .int .i64 r, .slice B m d, .pointer (some ⟨g, 0, none⟩)] 67)).alloc (.cells #[.int .i64 k1, .int .i64 n1, .int .i64 k2, .int .i64 n2] 93)).alloc (.cells #[.int .i64 0, .int .i64 0] 41)) = W0 := ⟨_, rfl⟩
  have HX0 := Lib.hid (show Bx W0 w.heap.size 67 [.slice A n c, .int .i64 r, .slice B m d, .pointer (some ⟨g, 0, none⟩)] by rw [← hW0]; exact hX0)
  have HX1 := Lib.hid (show Bx W0 (w.heap.size + 1) 93 [.int .i64 k1, .int .i64 n1, .int .i64 k2, .int .i64 n2] by rw [← hW0]; exact hX1)
  have HX2 := Lib.hid (show Bx W0 (w.heap.size + 1 + 1) 41 [.int .i64 0, .int .i64 0] by rw [← hW0]; exact hX2)
  rw [hW0] at hb0
  have HB0 := Lib.hid hb0
  have HC := Lib.hid (h.below hb0)
  have hpz : (p : Int) < (n : Int) := by omega
  obtain ⟨bA, off, K, cK, rfl, xt, x0, x1, x2, x3, x4, xI⟩ := Ty.node_at (h.below hb0).tt.nds (Below.refl _ _) p hpl
  rw [hq] at x0 x1 x2 x3 x4
  have HPC := Lib.hid (fun W (q : Below W0.heap.size W0 W) (nm : ByteArray) (hn : nm.size ≤ 9223372036854775807) => Ty.procT_any (HC.out.below q).tt c r nm hn)
  obtain ⟨kd, nn, pl, tx, ks⟩ := q
  dsimp only at x0 x1 x2 x3 x4 hk h21 htx HOP
  have a0 := (HX0.out.cell 0).trans rfl
  clear hX0 hX1 hX2 hb0 hm xI h
  go_enter Try.func45, Try.ntmps45
  go_upto_region 2 with (fail)
  have hX3 := Bx.new W0 55 [.int .i64 kd, .int .i64 nn, .int .i64 pl, .string tx, .slice K ks.length cK]
  have hb1 : Below W0.heap.size W0 (W0.alloc (.cells #[.int .i64 kd, .int .i64 nn, .int .i64 pl, .string tx, .slice K ks.length cK] 55)) := heap1 _ _
  obtain ⟨W1, hW1⟩ : ∃ W1, (W0.alloc (.cells #[.int .i64 kd, .int .i64 nn, .int .i64 pl, .string tx, .slice K ks.length cK] 55)) = W1 := ⟨_, rfl⟩
  have HX3 := Lib.hid (show Bx W1 W0.heap.size 55 [.int .i64 kd, .int .i64 nn, .int .i64 pl, .string tx, .slice K ks.length cK] by rw [← hW1]; exact hX3)
  rw [hW1] at hb1 ⊢
  have HB1 := Lib.hid hb1
  have HW1 := Lib.hid (bt HB0.out hb1)
  have HX0a := Lib.hid (HX0.out.below hb1 HX0.out.lt)
  have HX1a := Lib.hid (HX1.out.below hb1 HX1.out.lt)
  have HX2a := Lib.hid (HX2.out.below hb1 HX2.out.lt)
  have HPC1 := Lib.hid (fun nm hn => HPC.out W1 hb1 nm hn)
  have HOP1 := Lib.hid (HOP.out W1 HW1.out)
  have HVR1 := Lib.hid (HVR.out W1 HW1.out)
  have HZL := Lib.hid (show w.heap.size + 1 + 1 < W0.heap.size from HX2.out.lt)
  generalize W0.heap.size = z0 at *
  clear hX3 hb1 a0 x0 x1 x2 x3 x4 hW1
  have n0 := (HX3.out.cell 0).trans rfl
  have n1' := (HX3.out.cell 1).trans rfl
  have n3 := (HX3.out.cell 3).trans rfl
  have b0 := (HX0a.out.cell 0).trans rfl
  have b1 := (HX0a.out.cell 1).trans rfl
  have b2 := (HX0a.out.cell 2).trans rfl
  have b3 := (HX0a.out.cell 3).trans rfl
  have o0 := (HX1a.out.cell 0).trans rfl
  have o1 := (HX1a.out.cell 1).trans rfl
  have o2 := (HX1a.out.cell 2).trans rfl
  have o3 := (HX1a.out.cell 3).trans rfl
  rcases (show kd = 20 ∨ kd = 21 ∨ kd = 22 ∨ kd = 23 ∨ kd = 24 ∨ kd = 25 ∨ kd = 26 ∨ kd = 27 by omega) with rfl | rfl | rfl | rfl | rfl | rfl | h26
  · have HO := Lib.hid (show mdV l r ns L p ⟨20, nn, pl, tx, ks⟩ k1 n1 k2 n2 = ((1, nn), 0) by unfold mdV; rw [if_pos rfl])
    have HNU := Lib.hid ((Va.number_any nn W1).mono fun e w' q => show VP 1 nn W1 e w' from ⟨q.1, by rw [q.2]; exact heap1 _ _⟩)
    clear hk h21
    go_wp2_with (go_at_call 31; refine HNU.out.mono ?_)
    rintro e w3 ⟨rfl, hb3⟩
    have hX2 := HX2a.out.below hb3 HX2a.out.lt
    have t0 := (hX2.cell 0).trans rfl
    have t1 := (hX2.cell 1).trans rfl
    have g0 := hX2.frozen 0
    have g1 := hX2.frozen 1
    go_wp2
    have z := (hX2.set_ 0 (.int .i64 1)).set_ 1 (.int .i64 nn)
    have c0 := (z.cell 0).trans rfl
    have c1 := (z.cell 1).trans rfl
    exact bodyPost_ret (v := .tuple #[.agg #[.int .i64 1, .int .i64 nn], .int .i64 0]) (by simp [results, Try.results45, go_sem, c0, c1]) rfl (by rw [HO.out]; exact ⟨rfl, below2 (bt HW1.out hb3) (by omega)⟩)
  · have HO := Lib.hid (show mdV l r ns L p ⟨21, nn, pl, tx, ks⟩ k1 n1 k2 n2 = ((2, nn), 0) by unfold mdV; rw [if_neg (by decide : ¬ (21 : Int) = 20), if_pos rfl])
    have hnn := h21 rfl
    have htb : tB (nn == 1) = nn := by rcases hnn with rfl | rfl <;> decide
    have HNU := Lib.hid ((Va.truth_any (nn == 1) W1).mono fun e w' q => show VP 2 nn W1 e w' from ⟨by rw [q.1, htb], by rw [q.2]; exact heap1 _ _⟩)
    clear hk h21 hnn htb
    go_wp2_with (go_at_call 50; refine HNU.out.mono ?_)
    rintro e w3 ⟨rfl, hb3⟩
    have hX2 := HX2a.out.below hb3 HX2a.out.lt
    have t0 := (hX2.cell 0).trans rfl
    have t1 := (hX2.cell 1).trans rfl
    have g0 := hX2.frozen 0
    have g1 := hX2.frozen 1
    go_wp2
    have z := (hX2.set_ 0 (.int .i64 2)).set_ 1 (.int .i64 nn)
    have c0 := (z.cell 0).trans rfl
    have c1 := (z.cell 1).trans rfl
    exact bodyPost_ret (v := .tuple #[.agg #[.int .i64 2, .int .i64 nn], .int .i64 0]) (by simp [results, Try.results45, go_sem, c0, c1]) rfl (by rw [HO.out]; exact ⟨rfl, below2 (bt HW1.out hb3) (by omega)⟩)
  · obtain ⟨⟨u1, u2⟩, hu⟩ : ∃ R, named ns tx = R := ⟨_, rfl⟩
    have HO := Lib.hid (show mdV l r ns L p ⟨22, nn, pl, tx, ks⟩ k1 n1 k2 n2 = ((u1, u2), 0) by unfold mdV; rw [if_neg (by decide : ¬ (22 : Int) = 20), if_neg (by decide : ¬ (22 : Int) = 21), if_pos rfl, hu])
    have HNU := Lib.hid (HVR1.out tx)
    rw [hu] at HNU
    dsimp only at HNU
    clear hk h21 hu
    go_wp2_with (go_at_call 62; refine HNU.out.mono ?_)
    rintro e w3 ⟨rfl, hb3⟩
    have hX2 := HX2a.out.below hb3 HX2a.out.lt
    have t0 := (hX2.cell 0).trans rfl
    have t1 := (hX2.cell 1).trans rfl
    have g0 := hX2.frozen 0
    have g1 := hX2.frozen 1
    go_wp2
    have z := (hX2.set_ 0 (.int .i64 u1)).set_ 1 (.int .i64 u2)
    have c0 := (z.cell 0).trans rfl
    have c1 := (z.cell 1).trans rfl
    exact bodyPost_ret (v := .tuple #[.agg #[.int .i64 u1, .int .i64 u2], .int .i64 0]) (by simp [results, Try.results45, go_sem, c0, c1]) rfl (by rw [HO.out]; exact ⟨rfl, below2 (bt HW1.out hb3) (by omega)⟩)
  · obtain ⟨⟨u1, u2⟩, hu⟩ : ∃ R, named ns tx = R := ⟨_, rfl⟩
    obtain ⟨⟨⟨y1, y2⟩, e0⟩, hy⟩ : ∃ R, getV L u1 u2 k1 n1 = R := ⟨_, rfl⟩
    have HO := Lib.hid (show mdV l r ns L p ⟨23, nn, pl, tx, ks⟩ k1 n1 k2 n2 = ((y1, y2), e0) by unfold mdV; rw [if_neg (by decide : ¬ (23 : Int) = 20), if_neg (by decide : ¬ (23 : Int) = 21), if_neg (by decide : ¬ (23 : Int) = 22), if_pos rfl, hu]; exact hy)
    have HVT := Lib.hid (fun W b => HVR.out W b tx)
    rw [hu] at HVT
    have HGG := Lib.hid (fun W b => HGT.out W b u1 u2 k1 n1)
    rw [hy] at HGG
    dsimp only at HVT HGG
    clear hk h21 hu hy
    go_upto_region 10 with (fail)
    clear n0 n1' n3 b0 b1 b2 b3 o0 o1 o2 o3
    refine wp_region_held (S := (S3 w.heap.size z0 [.slice (some ⟨bA, off, none⟩) n c, .int .i64 r, .slice B m d, .pointer (some ⟨g, 0, none⟩)] [.int .i64 k1, .int .i64 n1, .int .i64 k2, .int .i64 n2] [.int .i64 23, .int .i64 nn, .int .i64 pl, .string tx, .slice K ks.length cK])) (by kernel_rfl) ?_
    have hS : (S3 w.heap.size z0 [.slice (some ⟨bA, off, none⟩) n c, .int .i64 r, .slice B m d, .pointer (some ⟨g, 0, none⟩)] [.int .i64 k1, .int .i64 n1, .int .i64 k2, .int .i64 n2] [.int .i64 23, .int .i64 nn, .int .i64 pl, .string tx, .slice K ks.length cK]) ({ W1 with drawn := W1.drawn + 1 } : World) := (show S3 w.heap.size z0 [.slice (some ⟨bA, off, none⟩) n c, .int .i64 r, .slice B m d, .pointer (some ⟨g, 0, none⟩)] [.int .i64 k1, .int .i64 n1, .int .i64 k2, .int .i64 n2] [.int .i64 23, .int .i64 nn, .int .i64 pl, .string tx, .slice K ks.length cK] W1 from ⟨HX0a.out, HX1a.out, HX3.out⟩).below (Below.refl _ _).drew
    have hq : Below W1.heap.size W1 ({ W1 with drawn := W1.drawn + 1 } : World) := (Below.refl _ _).drew
    generalize ({ W1 with drawn := W1.drawn + 1 } : World) = V0 at *
    refine hpu 0 (o := ({ dst := some 36, op := Op.fieldAddr 67 (Operand.tmp 3) 2, type := 0, pos := "eval.go:61", after := #[], guard := none } : Oper)) (.pointer (some ⟨w.heap.size, 3, none⟩)) (by kernel_rfl) rfl rfl (fun _ _ _ h => h) rfl (by intro w' hSw; have e0 := (hSw.1.cell 0).trans rfl; have e1 := (hSw.1.cell 1).trans rfl; have e2 := (hSw.1.cell 2).trans rfl; have e3 := (hSw.1.cell 3).trans rfl; have i0 := (hSw.2.1.cell 0).trans rfl; have i1 := (hSw.2.1.cell 1).trans rfl; have j3 := (hSw.2.2.cell 3).trans rfl; clear hSw; go_simp) hS ?_
    try simp only [ap]
    refine hpu 1 (o := ({ dst := some 37, op := Op.load 31 (Operand.tmp 36), type := 31, pos := "eval.go:61", after := #[{ on := 0, ground := Ground.data }], guard := none } : Oper)) (.pointer (some ⟨g, 0, none⟩)) (by kernel_rfl) rfl rfl (fun _ _ _ h => h) rfl (by intro w' hSw; have e0 := (hSw.1.cell 0).trans rfl; have e1 := (hSw.1.cell 1).trans rfl; have e2 := (hSw.1.cell 2).trans rfl; have e3 := (hSw.1.cell 3).trans rfl; have i0 := (hSw.2.1.cell 0).trans rfl; have i1 := (hSw.2.1.cell 1).trans rfl; have j3 := (hSw.2.2.cell 3).trans rfl; clear hSw; go_simp) hS ?_
    try simp only [ap]
    refine hpu 2 (o := ({ dst := some 38, op := Op.load 67 (Operand.tmp 3), type := 67, pos := "eval.go:61", after := #[], guard := none } : Oper)) (.agg #[.slice (some ⟨bA, off, none⟩) n c, .int .i64 r, .slice B m d, .pointer (some ⟨g, 0, none⟩)]) (by kernel_rfl) rfl rfl (fun _ _ _ h => h) rfl (by intro w' hSw; have e0 := (hSw.1.cell 0).trans rfl; have e1 := (hSw.1.cell 1).trans rfl; have e2 := (hSw.1.cell 2).trans rfl; have e3 := (hSw.1.cell 3).trans rfl; have i0 := (hSw.2.1.cell 0).trans rfl; have i1 := (hSw.2.1.cell 1).trans rfl; have j3 := (hSw.2.2.cell 3).trans rfl; clear hSw; go_simp) hS ?_
    try simp only [ap]
    refine hpu 3 (o := ({ dst := some 39, op := Op.fieldAddr 55 (Operand.tmp 8) 3, type := 0, pos := "eval.go:61", after := #[], guard := none } : Oper)) (.pointer (some ⟨z0, 3, none⟩)) (by kernel_rfl) rfl rfl (fun _ _ _ h => h) rfl (by intro w' hSw; have e0 := (hSw.1.cell 0).trans rfl; have e1 := (hSw.1.cell 1).trans rfl; have e2 := (hSw.1.cell 2).trans rfl; have e3 := (hSw.1.cell 3).trans rfl; have i0 := (hSw.2.1.cell 0).trans rfl; have i1 := (hSw.2.1.cell 1).trans rfl; have j3 := (hSw.2.2.cell 3).trans rfl; clear hSw; go_simp) hS ?_
    try simp only [ap]
    refine hpu 4 (o := ({ dst := some 40, op := Op.load 9 (Operand.tmp 39), type := 9, pos := "eval.go:61", after := #[{ on := 3, ground := Ground.data }], guard := none } : Oper)) (.string tx) (by kernel_rfl) rfl rfl (fun _ _ _ h => h) rfl (by intro w' hSw; have e0 := (hSw.1.cell 0).trans rfl; have e1 := (hSw.1.cell 1).trans rfl; have e2 := (hSw.1.cell 2).trans rfl; have e3 := (hSw.1.cell 3).trans rfl; have i0 := (hSw.2.1.cell 0).trans rfl; have i1 := (hSw.2.1.cell 1).trans rfl; have j3 := (hSw.2.2.cell 3).trans rfl; clear hSw; go_simp) hS ?_
    try simp only [ap]
    refine hpu 6 (o := ({ dst := some 42, op := Op.indexAddr 93 (Operand.tmp 5) (Operand.const (Value.int IntKind.i64 0)), type := 0, pos := "eval.go:61", after := #[], guard := none } : Oper)) (.pointer (some ⟨w.heap.size + 1, 0, none⟩)) (by kernel_rfl) rfl rfl (fun _ _ _ h => h) rfl (by intro w' hSw; have e0 := (hSw.1.cell 0).trans rfl; have e1 := (hSw.1.cell 1).trans rfl; have e2 := (hSw.1.cell 2).trans rfl; have e3 := (hSw.1.cell 3).trans rfl; have i0 := (hSw.2.1.cell 0).trans rfl; have i1 := (hSw.2.1.cell 1).trans rfl; have j3 := (hSw.2.2.cell 3).trans rfl; clear hSw; go_simp) hS ?_
    try simp only [ap]
    refine hpu 7 (o := ({ dst := some 43, op := Op.load 41 (Operand.tmp 42), type := 41, pos := "eval.go:61", after := #[{ on := 6, ground := Ground.data }], guard := none } : Oper)) (.agg #[.int .i64 k1, .int .i64 n1]) (by kernel_rfl) rfl rfl (fun _ _ _ h => h) rfl (by intro w' hSw; have e0 := (hSw.1.cell 0).trans rfl; have e1 := (hSw.1.cell 1).trans rfl; have e2 := (hSw.1.cell 2).trans rfl; have e3 := (hSw.1.cell 3).trans rfl; have i0 := (hSw.2.1.cell 0).trans rfl; have i1 := (hSw.2.1.cell 1).trans rfl; have j3 := (hSw.2.2.cell 3).trans rfl; clear hSw; go_simp) hS ?_
    try simp only [ap]
    refine h_call 5 ({ dst := some 41, op := Op.call { callee := Callee.value (Operand.func 62), args := #[Operand.tmp 38, Operand.tmp 40], argTypes := #[67, 9] }, type := 41, pos := "eval.go:61", after := #[{ on := 2, ground := Ground.data }, { on := 4, ground := Ground.data }], guard := none } : Oper) (fun v w1 => v = .agg #[.int .i64 u1, .int .i64 u2] ∧ Below V0.heap.size V0 w1) own66 rfl rfl rfl (by kernel_rfl) rfl (args := #[.agg #[.slice (some ⟨bA, off, none⟩) n c, .int .i64 r, .slice B m d, .pointer (some ⟨g, 0, none⟩)], .string tx]) rfl (((HVT.out _ (bt HW1.out hq)).mono fun e w1 q => ⟨_, q.1, rfl, q.2⟩)) ?_
    rintro v V1 ⟨rfl, hb5⟩
    have hS := hS.below hb5
    have hq := bt hq hb5
    refine ⟨hS, ?_⟩
    try simp only [ap]
    refine h_call 8 ({ dst := some 44, op := Op.call { callee := Callee.value (Operand.func 14), args := #[Operand.tmp 37, Operand.tmp 41, Operand.tmp 43], argTypes := #[31, 41, 41] }, type := 45, pos := "eval.go:61", after := #[{ on := 1, ground := Ground.data }, { on := 5, ground := Ground.data }, { on := 7, ground := Ground.data }, { on := 5, ground := Ground.chain }], guard := none } : Oper) (fun v w1 => v = .tuple #[.agg #[.int .i64 y1, .int .i64 y2], .int .i64 e0] ∧ Below V1.heap.size V1 w1) own14 rfl rfl rfl (by kernel_rfl) rfl (args := #[.pointer (some ⟨g, 0, none⟩), .agg #[.int .i64 u1, .int .i64 u2], .agg #[.int .i64 k1, .int .i64 n1]]) rfl (((HGG.out _ (bt HW1.out hq)).mono fun e w1 q => ⟨_, q.1, rfl, q.2⟩)) ?_
    rintro v V2 ⟨rfl, hb6⟩
    have hS := hS.below hb6
    have hq := bt hq hb6
    refine ⟨hS, ?_⟩
    try simp only [ap]
    refine hpu 9 (o := ({ dst := some 45, op := Op.extract (Operand.tmp 44) 0, type := 41, pos := "eval.go:61", after := #[{ on := 8, ground := Ground.data }], guard := none } : Oper)) (.agg #[.int .i64 y1, .int .i64 y2]) (by kernel_rfl) rfl rfl (fun _ _ _ h => h) rfl (by intro w' hSw; have e0 := (hSw.1.cell 0).trans rfl; have e1 := (hSw.1.cell 1).trans rfl; have e2 := (hSw.1.cell 2).trans rfl; have e3 := (hSw.1.cell 3).trans rfl; have i0 := (hSw.2.1.cell 0).trans rfl; have i1 := (hSw.2.1.cell 1).trans rfl; have j3 := (hSw.2.2.cell 3).trans rfl; clear hSw; go_simp) hS ?_
    try simp only [ap]
    refine hpu 10 (o := ({ dst := some 46, op := Op.extract (Operand.tmp 44) 1, type := 3, pos := "eval.go:61", after := #[{ on := 8, ground := Ground.data }], guard := none } : Oper)) (.int .i64 e0) (by kernel_rfl) rfl rfl (fun _ _ _ h => h) rfl (by intro w' hSw; have e0 := (hSw.1.cell 0).trans rfl; have e1 := (hSw.1.cell 1).trans rfl; have e2 := (hSw.1.cell 2).trans rfl; have e3 := (hSw.1.cell 3).trans rfl; have i0 := (hSw.2.1.cell 0).trans rfl; have i1 := (hSw.2.1.cell 1).trans rfl; have j3 := (hSw.2.2.cell 3).trans rfl; clear hSw; go_simp) hS ?_
    try simp only [ap]
    refine h_oneK 11 ({ dst := none, op := Op.store 41 (Operand.tmp 6) (Operand.tmp 45), type := 0, pos := "eval.go:61", after := #[{ on := 9, ground := Ground.data }, { on := 8, ground := Ground.chain }, { on := 0, ground := Ground.phase }, { on := 1, ground := Ground.phase }, { on := 2, ground := Ground.phase }, { on := 3, ground := Ground.phase }, { on := 4, ground := Ground.phase }, { on := 5, ground := Ground.phase }, { on := 6, ground := Ground.phase }, { on := 7, ground := Ground.phase }, { on := 8, ground := Ground.phase }, { on := 9, ground := Ground.phase }, { on := 10, ground := Ground.phase }], guard := none } : Oper) rfl (by kernel_rfl) rfl (fun K2 hK2 => ?_)
    have t0 := ((HX2a.out.below hq HX2a.out.lt).cell 0).trans rfl
    have t1 := ((HX2a.out.below hq HX2a.out.lt).cell 1).trans rfl
    have f0 := (HX2a.out.below hq HX2a.out.lt).frozen 0
    have f1 := (HX2a.out.below hq HX2a.out.lt).frozen 1
    go_simp
    refine hK2.out _ _ ((hS.far (by omega) (by omega) (by have := HZL.out; omega) _).far (by omega) (by omega) (by have := HZL.out; omega) _) (fun hS2 => ?_)
    clear hK2 K2 t0 t1 f0 f1
    replace hS := hS2
    clear hS2
    try simp only [ap]
    refine hpu 12 (o := ({ dst := some 7, op := Op.assign (Operand.tmp 46), type := 3, pos := "eval.go:61", after := #[{ on := 10, ground := Ground.data }, { on := 11, ground := Ground.chain }, { on := 0, ground := Ground.phase }, { on := 1, ground := Ground.phase }, { on := 2, ground := Ground.phase }, { on := 3, ground := Ground.phase }, { on := 4, ground := Ground.phase }, { on := 5, ground := Ground.phase }, { on := 6, ground := Ground.phase }, { on := 7, ground := Ground.phase }, { on := 8, ground := Ground.phase }, { on := 9, ground := Ground.phase }, { on := 10, ground := Ground.phase }, { on := 11, ground := Ground.phase }], guard := none } : Oper)) (.int .i64 e0) (by kernel_rfl) rfl rfl (fun _ _ _ h => h) rfl (by intro w' hSw; have e0 := (hSw.1.cell 0).trans rfl; have e1 := (hSw.1.cell 1).trans rfl; have e2 := (hSw.1.cell 2).trans rfl; have e3 := (hSw.1.cell 3).trans rfl; have i0 := (hSw.2.1.cell 0).trans rfl; have i1 := (hSw.2.1.cell 1).trans rfl; have j3 := (hSw.2.2.cell 3).trans rfl; clear hSw; go_simp) hS ?_
    try simp only [ap]
    refine wpAnyH_done (by kernel_rfl) ?_ _
    have hX2 := HX2a.out.below hq HX2a.out.lt
    have HZQ := Lib.hid (bt HW1.out hq)
    clear hS hq hb5 hb6
    go_wp2
    have z := (hX2.set_ 0 (.int .i64 y1)).set_ 1 (.int .i64 y2)
    have c0 := (z.cell 0).trans rfl
    have c1 := (z.cell 1).trans rfl
    exact bodyPost_ret (v := .tuple #[.agg #[.int .i64 y1, .int .i64 y2], .int .i64 e0]) (by simp [results, Try.results45, go_sem, c0, c1]) rfl (by rw [HO.out]; exact ⟨rfl, below2 HZQ.out (by omega)⟩)
  · obtain ⟨⟨u1, u2⟩, hu⟩ : ∃ R, named ns tx = R := ⟨_, rfl⟩
    obtain ⟨y2, hy⟩ : ∃ R, lenH L u1 u2 = R := ⟨_, rfl⟩
    have HO := Lib.hid (show mdV l r ns L p ⟨24, nn, pl, tx, ks⟩ k1 n1 k2 n2 = ((1, y2), 0) by unfold mdV; rw [if_neg (by decide : ¬ (24 : Int) = 20), if_neg (by decide : ¬ (24 : Int) = 21), if_neg (by decide : ¬ (24 : Int) = 22), if_neg (by decide : ¬ (24 : Int) = 23), if_pos rfl, hu]; dsimp only; rw [hy])
    have HVT := Lib.hid (fun W b => HVR.out W b tx)
    rw [hu] at HVT
    have HGG := Lib.hid (fun W b => HLN.out W b u1 u2)
    rw [hy] at HGG
    dsimp only at HVT
    clear hk h21 hu hy
    go_upto_region 12 with (fail)
    clear n0 n1' n3 b0 b1 b2 b3 o0 o1 o2 o3
    refine wp_region_held (S := (S3 w.heap.size z0 [.slice (some ⟨bA, off, none⟩) n c, .int .i64 r, .slice B m d, .pointer (some ⟨g, 0, none⟩)] [.int .i64 k1, .int .i64 n1, .int .i64 k2, .int .i64 n2] [.int .i64 24, .int .i64 nn, .int .i64 pl, .string tx, .slice K ks.length cK])) (by kernel_rfl) ?_
    have hS : (S3 w.heap.size z0 [.slice (some ⟨bA, off, none⟩) n c, .int .i64 r, .slice B m d, .pointer (some ⟨g, 0, none⟩)] [.int .i64 k1, .int .i64 n1, .int .i64 k2, .int .i64 n2] [.int .i64 24, .int .i64 nn, .int .i64 pl, .string tx, .slice K ks.length cK]) ({ W1 with drawn := W1.drawn + 1 } : World) := (show S3 w.heap.size z0 [.slice (some ⟨bA, off, none⟩) n c, .int .i64 r, .slice B m d, .pointer (some ⟨g, 0, none⟩)] [.int .i64 k1, .int .i64 n1, .int .i64 k2, .int .i64 n2] [.int .i64 24, .int .i64 nn, .int .i64 pl, .string tx, .slice K ks.length cK] W1 from ⟨HX0a.out, HX1a.out, HX3.out⟩).below (Below.refl _ _).drew
    have hq : Below W1.heap.size W1 ({ W1 with drawn := W1.drawn + 1 } : World) := (Below.refl _ _).drew
    generalize ({ W1 with drawn := W1.drawn + 1 } : World) = V0 at *
    refine hpu 0 (o := ({ dst := some 49, op := Op.fieldAddr 67 (Operand.tmp 3) 2, type := 0, pos := "eval.go:63", after := #[], guard := none } : Oper)) (.pointer (some ⟨w.heap.size, 3, none⟩)) (by kernel_rfl) rfl rfl (fun _ _ _ h => h) rfl (by intro w' hSw; have e0 := (hSw.1.cell 0).trans rfl; have e1 := (hSw.1.cell 1).trans rfl; have e2 := (hSw.1.cell 2).trans rfl; have e3 := (hSw.1.cell 3).trans rfl; have i0 := (hSw.2.1.cell 0).trans rfl; have i1 := (hSw.2.1.cell 1).trans rfl; have j3 := (hSw.2.2.cell 3).trans rfl; clear hSw; go_simp) hS ?_
    try simp only [ap]
    refine hpu 1 (o := ({ dst := some 50, op := Op.load 31 (Operand.tmp 49), type := 31, pos := "eval.go:63", after := #[{ on := 0, ground := Ground.data }], guard := none } : Oper)) (.pointer (some ⟨g, 0, none⟩)) (by kernel_rfl) rfl rfl (fun _ _ _ h => h) rfl (by intro w' hSw; have e0 := (hSw.1.cell 0).trans rfl; have e1 := (hSw.1.cell 1).trans rfl; have e2 := (hSw.1.cell 2).trans rfl; have e3 := (hSw.1.cell 3).trans rfl; have i0 := (hSw.2.1.cell 0).trans rfl; have i1 := (hSw.2.1.cell 1).trans rfl; have j3 := (hSw.2.2.cell 3).trans rfl; clear hSw; go_simp) hS ?_
    try simp only [ap]
    refine hpu 2 (o := ({ dst := some 51, op := Op.load 67 (Operand.tmp 3), type := 67, pos := "eval.go:63", after := #[], guard := none } : Oper)) (.agg #[.slice (some ⟨bA, off, none⟩) n c, .int .i64 r, .slice B m d, .pointer (some ⟨g, 0, none⟩)]) (by kernel_rfl) rfl rfl (fun _ _ _ h => h) rfl (by intro w' hSw; have e0 := (hSw.1.cell 0).trans rfl; have e1 := (hSw.1.cell 1).trans rfl; have e2 := (hSw.1.cell 2).trans rfl; have e3 := (hSw.1.cell 3).trans rfl; have i0 := (hSw.2.1.cell 0).trans rfl; have i1 := (hSw.2.1.cell 1).trans rfl; have j3 := (hSw.2.2.cell 3).trans rfl; clear hSw; go_simp) hS ?_
    try simp only [ap]
    refine hpu 3 (o := ({ dst := some 52, op := Op.fieldAddr 55 (Operand.tmp 8) 3, type := 0, pos := "eval.go:63", after := #[], guard := none } : Oper)) (.pointer (some ⟨z0, 3, none⟩)) (by kernel_rfl) rfl rfl (fun _ _ _ h => h) rfl (by intro w' hSw; have e0 := (hSw.1.cell 0).trans rfl; have e1 := (hSw.1.cell 1).trans rfl; have e2 := (hSw.1.cell 2).trans rfl; have e3 := (hSw.1.cell 3).trans rfl; have i0 := (hSw.2.1.cell 0).trans rfl; have i1 := (hSw.2.1.cell 1).trans rfl; have j3 := (hSw.2.2.cell 3).trans rfl; clear hSw; go_simp) hS ?_
    try simp only [ap]
    refine hpu 4 (o := ({ dst := some 53, op := Op.load 9 (Operand.tmp 52), type := 9, pos := "eval.go:63", after := #[{ on := 3, ground := Ground.data }], guard := none } : Oper)) (.string tx) (by kernel_rfl) rfl rfl (fun _ _ _ h => h) rfl (by intro w' hSw; have e0 := (hSw.1.cell 0).trans rfl; have e1 := (hSw.1.cell 1).trans rfl; have e2 := (hSw.1.cell 2).trans rfl; have e3 := (hSw.1.cell 3).trans rfl; have i0 := (hSw.2.1.cell 0).trans rfl; have i1 := (hSw.2.1.cell 1).trans rfl; have j3 := (hSw.2.2.cell 3).trans rfl; clear hSw; go_simp) hS ?_
    try simp only [ap]
    refine h_call 5 ({ dst := some 54, op := Op.call { callee := Callee.value (Operand.func 62), args := #[Operand.tmp 51, Operand.tmp 53], argTypes := #[67, 9] }, type := 41, pos := "eval.go:63", after := #[{ on := 2, ground := Ground.data }, { on := 4, ground := Ground.data }], guard := none } : Oper) (fun v w1 => v = .agg #[.int .i64 u1, .int .i64 u2] ∧ Below V0.heap.size V0 w1) own66 rfl rfl rfl (by kernel_rfl) rfl (args := #[.agg #[.slice (some ⟨bA, off, none⟩) n c, .int .i64 r, .slice B m d, .pointer (some ⟨g, 0, none⟩)], .string tx]) rfl (((HVT.out _ (bt HW1.out hq)).mono fun e w1 q => ⟨_, q.1, rfl, q.2⟩)) ?_
    rintro v V1 ⟨rfl, hb5⟩
    have hS := hS.below hb5
    have hq := bt hq hb5
    refine ⟨hS, ?_⟩
    try simp only [ap]
    refine h_call 6 ({ dst := some 55, op := Op.call { callee := Callee.value (Operand.func 63), args := #[Operand.tmp 50, Operand.tmp 54], argTypes := #[31, 41] }, type := 3, pos := "eval.go:63", after := #[{ on := 1, ground := Ground.data }, { on := 5, ground := Ground.data }, { on := 5, ground := Ground.chain }], guard := none } : Oper) (fun v w1 => v = .int .i64 y2 ∧ Below V1.heap.size V1 w1) own67 rfl rfl rfl (by kernel_rfl) rfl (args := #[.pointer (some ⟨g, 0, none⟩), .agg #[.int .i64 u1, .int .i64 u2]]) rfl (((HGG.out _ (bt HW1.out hq)).mono fun e w1 q => ⟨_, q.1, rfl, q.2⟩)) ?_
    rintro v V2 ⟨rfl, hb6⟩
    have hS := hS.below hb6
    have hq := bt hq hb6
    refine ⟨hS, ?_⟩
    try simp only [ap]
    refine h_call 7 ({ dst := some 56, op := Op.call { callee := Callee.value (Operand.func 31), args := #[Operand.tmp 55], argTypes := #[3] }, type := 41, pos := "eval.go:63", after := #[{ on := 6, ground := Ground.data }, { on := 6, ground := Ground.chain }], guard := none } : Oper) (fun v w1 => v = .agg #[.int .i64 1, .int .i64 y2] ∧ Below V2.heap.size V2 w1) own31 rfl rfl rfl (by kernel_rfl) rfl (args := #[.int .i64 y2]) rfl (((HNB.out y2 _).mono fun e w1 q => ⟨_, q.1, rfl, q.2⟩)) ?_
    rintro v V3 ⟨rfl, hb7⟩
    have hS := hS.below hb7
    have hq := bt hq hb7
    refine ⟨hS, ?_⟩
    try simp only [ap]
    refine h_oneK 8 ({ dst := none, op := Op.store 41 (Operand.tmp 6) (Operand.tmp 56), type := 0, pos := "eval.go:63", after := #[{ on := 7, ground := Ground.data }, { on := 7, ground := Ground.chain }, { on := 0, ground := Ground.phase }, { on := 1, ground := Ground.phase }, { on := 2, ground := Ground.phase }, { on := 3, ground := Ground.phase }, { on := 4, ground := Ground.phase }, { on := 5, ground := Ground.phase }, { on := 6, ground := Ground.phase }, { on := 7, ground := Ground.phase }], guard := none } : Oper) rfl (by kernel_rfl) rfl (fun K2 hK2 => ?_)
    have t0 := ((HX2a.out.below hq HX2a.out.lt).cell 0).trans rfl
    have t1 := ((HX2a.out.below hq HX2a.out.lt).cell 1).trans rfl
    have f0 := (HX2a.out.below hq HX2a.out.lt).frozen 0
    have f1 := (HX2a.out.below hq HX2a.out.lt).frozen 1
    go_simp
    refine hK2.out _ _ ((hS.far (by omega) (by omega) (by have := HZL.out; omega) _).far (by omega) (by omega) (by have := HZL.out; omega) _) (fun hS2 => ?_)
    clear hK2 K2 t0 t1 f0 f1
    replace hS := hS2
    clear hS2
    try simp only [ap]
    refine hpu 9 (o := ({ dst := some 7, op := Op.assign (Operand.const (Value.int IntKind.i64 0)), type := 3, pos := "eval.go:63", after := #[{ on := 8, ground := Ground.chain }, { on := 0, ground := Ground.phase }, { on := 1, ground := Ground.phase }, { on := 2, ground := Ground.phase }, { on := 3, ground := Ground.phase }, { on := 4, ground := Ground.phase }, { on := 5, ground := Ground.phase }, { on := 6, ground := Ground.phase }, { on := 7, ground := Ground.phase }, { on := 8, ground := Ground.phase }], guard := none } : Oper)) (.int .i64 0) (by kernel_rfl) rfl rfl (fun _ _ _ h => h) rfl (by intro w' hSw; have e0 := (hSw.1.cell 0).trans rfl; have e1 := (hSw.1.cell 1).trans rfl; have e2 := (hSw.1.cell 2).trans rfl; have e3 := (hSw.1.cell 3).trans rfl; have i0 := (hSw.2.1.cell 0).trans rfl; have i1 := (hSw.2.1.cell 1).trans rfl; have j3 := (hSw.2.2.cell 3).trans rfl; clear hSw; go_simp) hS ?_
    try simp only [ap]
    refine wpAnyH_done (by kernel_rfl) ?_ _
    have hX2 := HX2a.out.below hq HX2a.out.lt
    have HZQ := Lib.hid (bt HW1.out hq)
    clear hS hq hb5 hb6 hb7
    go_wp2
    have z := (hX2.set_ 0 (.int .i64 1)).set_ 1 (.int .i64 y2)
    have c0 := (z.cell 0).trans rfl
    have c1 := (z.cell 1).trans rfl
    exact bodyPost_ret (v := .tuple #[.agg #[.int .i64 1, .int .i64 y2], .int .i64 0]) (by simp [results, Try.results45, go_sem, c0, c1]) rfl (by rw [HO.out]; exact ⟨rfl, below2 HZQ.out (by omega)⟩)
  · have HO := Lib.hid (show mdV l r ns L p ⟨25, nn, pl, tx, ks⟩ k1 n1 k2 n2 = ((4, wrap64 (1 + pcT l r tx)), 0) by unfold mdV; rw [if_neg (by decide : ¬ (25 : Int) = 20), if_neg (by decide : ¬ (25 : Int) = 21), if_neg (by decide : ¬ (25 : Int) = 22), if_neg (by decide : ¬ (25 : Int) = 23), if_neg (by decide : ¬ (25 : Int) = 24), if_pos rfl])
    have HNU := Lib.hid (HPC1.out tx htx)
    generalize pcT l r tx = pc at *
    clear hk h21
    go_wp2_with (go_at_call 64; refine HNU.out.mono ?_)
    rintro e w3 ⟨rfl, hb3⟩
    have hX2 := HX2a.out.below hb3 HX2a.out.lt
    have t0 := (hX2.cell 0).trans rfl
    have t1 := (hX2.cell 1).trans rfl
    have g0 := hX2.frozen 0
    have g1 := hX2.frozen 1
    go_wp2
    have z := (hX2.set_ 0 (.int .i64 4)).set_ 1 (.int .i64 (wrap64 (1 + pc)))
    have c0 := (z.cell 0).trans rfl
    have c1 := (z.cell 1).trans rfl
    exact bodyPost_ret (v := .tuple #[.agg #[.int .i64 4, .int .i64 (wrap64 (1 + pc))], .int .i64 0]) (by simp [results, Try.results45, go_sem, c0, c1]) rfl (by rw [HO.out]; exact ⟨rfl, below2 (bt HW1.out hb3) (by omega)⟩)
  · obtain ⟨⟨⟨u1, u2⟩, e0⟩, hu⟩ : ∃ R, opV l r p ⟨kd, nn, pl, tx, ks⟩ k1 n1 k2 n2 = R := ⟨_, rfl⟩
    have HO := Lib.hid (show mdV l r ns L p ⟨kd, nn, pl, tx, ks⟩ k1 n1 k2 n2 = ((u1, u2), e0) by
      unfold mdV
      dsimp only
      rw [if_neg (by omega), if_neg (by omega), if_neg (by omega), if_neg (by omega), if_neg (by omega), if_neg (by omega), hu])
    have HNU := Lib.hid (HOP1.out h26)
    rw [hu] at HNU
    dsimp only at HNU
    have d20 : (kd == 20) = false := beq_eq_false_iff_ne.2 (by omega)
    have d21 : (kd == 21) = false := beq_eq_false_iff_ne.2 (by omega)
    have d22 : (kd == 22) = false := beq_eq_false_iff_ne.2 (by omega)
    have d23 : (kd == 23) = false := beq_eq_false_iff_ne.2 (by omega)
    have d24 : (kd == 24) = false := beq_eq_false_iff_ne.2 (by omega)
    have d25 : (kd == 25) = false := beq_eq_false_iff_ne.2 (by omega)
    clear hk h21 hu h26
    go_wp2_with (go_at_call 65; refine HNU.out.mono ?_)
    rintro e w3 ⟨rfl, hb3⟩
    have hX2 := HX2a.out.below hb3 HX2a.out.lt
    have t0 := (hX2.cell 0).trans rfl
    have t1 := (hX2.cell 1).trans rfl
    have g0 := hX2.frozen 0
    have g1 := hX2.frozen 1
    go_wp2
    have z := (hX2.set_ 0 (.int .i64 u1)).set_ 1 (.int .i64 u2)
    have c0 := (z.cell 0).trans rfl
    have c1 := (z.cell 1).trans rfl
    exact bodyPost_ret (v := .tuple #[.agg #[.int .i64 u1, .int .i64 u2], .int .i64 e0]) (by simp [results, Try.results45, go_sem, c0, c1]) rfl (by rw [HO.out]; exact ⟨rfl, below2 (bt HW1.out hb3) (by omega)⟩)
end
end Go.Proofs.Ytignojhijmamhaa
