/- PROVED here: parts VaO VaP of the claim. No condition but those in each theorem's own head. -/
import Derived.Test.YtignojhijmamhaaK36
import Derived.Laws.StructEq
namespace Go.Proofs.Ytignojhijmamhaa.Va
open Go Go.RowKit Go.Sort
theorem under23 : Try.prog.underlying 41 = some (.struct (Try.prog.fieldsOf 41)) := by kernel_rfl
theorem stood23 : Try.prog.stoodInHeld 41 = false := by kernel_rfl
theorem fields23 : (Try.prog.fieldsOf 41).toList.map (fun f => (f.name, f.type, f.offset)) = [("Kind", 3, 0), ("N", 3, 1)] := by kernel_rfl
theorem partV_0 (a b : Int) (w : World) : (part 3 #[.int .i64 a, .int .i64 b] 0).run Try.prog w = .ok (.int .i64 a) w := by kernel_rfl
theorem partV_1 (a b : Int) (w : World) : (part 3 #[.int .i64 a, .int .i64 b] 1).run Try.prog w = .ok (.int .i64 b) w := by kernel_rfl
theorem run_eql23 (a b a' b' : Int) (w : World) : (binOp .eql 41 (.agg #[.int .i64 a, .int .i64 b]) (.agg #[.int .i64 a', .int .i64 b'])).run Try.prog w = .ok (.bool ((a == a' && b == b'))) w := by
  have hf := fields23
  rw [run_eql_struct, run_equalIn_struct w 9999 41 _ _ under23 stood23]
  generalize (Try.prog.fieldsOf 41).toList = fs at hf
  have hlen : fs.length = 2 := by have := congrArg List.length hf; simpa using this
  match fs, hlen with
  | [f0, f1], _ =>
    simp only [List.map_cons, List.map_nil, List.cons.injEq, Prod.mk.injEq, and_true] at hf
    obtain ⟨⟨n0, t0, o0⟩, ⟨n1, t1, o1⟩⟩ := hf
    have e3 := fun (a b : Int) (w : World) => run_equalIn_int (P := Try.prog) w 9998 3 .i64 .i64 a b Try.underlying3
    simp only [Op.eqFields, n0, t0, o0, n1, t1, o1, Sem.run_bind, Sem.run_ite, partV_0, partV_1, e3, Result.andThen_ok, Sem.run_pure]
    cases a == a' <;> cases b == b' <;> simp
theorem run_neq23 (a b a' b' : Int) (w : World) : (binOp .neq 41 (.agg #[.int .i64 a, .int .i64 b]) (.agg #[.int .i64 a', .int .i64 b'])).run Try.prog w = .ok (.bool (!(a == a' && b == b'))) w := by
  have hf := fields23
  rw [run_neq_struct, run_equalIn_struct w 9999 41 _ _ under23 stood23]
  generalize (Try.prog.fieldsOf 41).toList = fs at hf
  have hlen : fs.length = 2 := by have := congrArg List.length hf; simpa using this
  match fs, hlen with
  | [f0, f1], _ =>
    simp only [List.map_cons, List.map_nil, List.cons.injEq, Prod.mk.injEq, and_true] at hf
    obtain ⟨⟨n0, t0, o0⟩, ⟨n1, t1, o1⟩⟩ := hf
    have e3 := fun (a b : Int) (w : World) => run_equalIn_int (P := Try.prog) w 9998 3 .i64 .i64 a b Try.underlying3
    simp only [Op.eqFields, n0, t0, o0, n1, t1, o1, Sem.run_bind, Sem.run_ite, partV_0, partV_1, e3, Result.andThen_ok, Sem.run_pure]
    cases a == a' <;> cases b == b' <;> simp
theorem Hp.new46 (w : World) (base : Nat) (hb : base ≤ w.heap.size) : Hp 39 C46 (w.alloc (.cells #[.slice none 0 0, .int .i64 0] 39)) base w.heap.size (.slice none 0 0) [] [] :=
  ⟨Bx.new w 39 [.slice none 0 0, .int .i64 0], ⟨rfl, World.ownsRow_nil _ _ _ _, fun i hi => by simp at hi, fun i j hi => by simp at hi⟩, by simp [cellsL], hb⟩
theorem Hp.not_fp {T : TypeId} {C : List (List Int) → List Value} {w : World} {base g : Nat} {v : Value} {vs : List Value} {L : List (List Int)} (h : Hp T C w base g v vs L) {b : Nat} {t : TypeId} {l : List Value} (hb : Bx w b t l) (h1 : t ≠ T) (h2 : t ≠ 25) (h3 : t ≠ 3) : ¬ Fp g v vs b := by
  rintro (rfl | e | ⟨x, hx, e⟩)
  · have h5 := h.bx
    unfold Bx at h5 hb
    rw [h5] at hb; injection hb with hb; injection hb with _ hb; exact h1 hb.symm
  · exact own_bx_ne h.ar.own hb (fun q => h2 q.symm) e
  · obtain ⟨i, hi, rfl⟩ := List.mem_iff_getElem.1 hx
    exact own_bx_ne (h.ar.row i hi (by rw [← h.ar.len]; exact hi)) hb (fun q => h3 q.symm) e
theorem Bx.ne_ {w : World} {b b' : Nat} {t t' : TypeId} {l l' : List Value} (h : Bx w b t l) (h' : Bx w b' t' l') (hne : t ≠ t') : b ≠ b' := by
  rintro rfl
  unfold Bx at h h'
  rw [h] at h'; injection h' with h'; injection h' with _ h'; exact hne h'
end Go.Proofs.Ytignojhijmamhaa.Va
namespace Go.Proofs.Ytignojhijmamhaa.Va
open Go Go.RowKit Go.Sort
theorem numb (n : Int) (w : World) : Calls Try.prog 12 #[.int .i64 n] w (VP 1 n w) := (num_any n w).mono fun e w' ⟨h1, h2⟩ => ⟨h1, by rw [h2]; exact heap1 _ _⟩
theorem zerob (n : Int) (w : World) : Calls Try.prog 15 #[.int .i64 n] w (VP n 0 w) := (zero_any n w).mono fun e w' ⟨h1, h2⟩ => ⟨h1, by rw [h2]; exact heap1 _ _⟩
def S3 (a b c : Nat) (x y z : Int × Int) (w : World) : Prop := Bx w a 41 [.int .i64 x.1, .int .i64 x.2] ∧ Bx w b 41 [.int .i64 y.1, .int .i64 y.2] ∧ Bx w c 41 [.int .i64 z.1, .int .i64 z.2]
theorem S3.below {a b c : Nat} {x y z : Int × Int} {w w' : World} (h : S3 a b c x y z w) (k : Below w.heap.size w w') : S3 a b c x y z w' := ⟨h.1.below k h.1.lt, h.2.1.below k h.2.1.lt, h.2.2.below k h.2.2.lt⟩
theorem S3.hp {a b c : Nat} {x y z : Int × Int} {T : TypeId} {C : List (List Int) → List Value} {w w' : World} {base g : Nat} {v : Value} {vs : List Value} {L : List (List Int)} (h : S3 a b c x y z w) (q : Hp T C w base g v vs L) (hT : (41 : TypeId) ≠ T) (k : Fr (Fp g v vs) w w') : S3 a b c x y z w' :=
  ⟨h.1.fr k (q.not_fp h.1 hT (by decide) (by decide)), h.2.1.fr k (q.not_fp h.2.1 hT (by decide) (by decide)), h.2.2.fr k (q.not_fp h.2.2 hT (by decide) (by decide))⟩
set_option maxRecDepth 100000 in
set_option maxHeartbeats 4000000 in
theorem shown_any (w : World) : Calls Try.prog 4 #[] w (BP true w) := by
  have HN := Lib.hid (fun n W => numb n W)
  have HB0 := Lib.hid (fun W => binary_any ⟨#[47]⟩ 1 7 1 (-2) W)
  rw [show binR ⟨#[47]⟩ 1 7 1 (-2) = ((1, -3), 0, true) by decide +kernel] at HB0
  have HB1 := Lib.hid (fun W => binary_any ⟨#[37]⟩ 1 7 1 (-2) W)
  rw [show binR ⟨#[37]⟩ 1 7 1 (-2) = ((1, 1), 0, true) by decide +kernel] at HB1
  have HB2 := Lib.hid (fun W => binary_any ⟨#[47]⟩ 1 1 1 0 W)
  rw [show binR ⟨#[47]⟩ 1 1 1 0 = ((0, 0), 1, true) by decide +kernel] at HB2
  have HB3 := Lib.hid (fun W => binary_any ⟨#[38, 38]⟩ 1 1 1 0 W)
  rw [show binR ⟨#[38, 38]⟩ 1 1 1 0 = ((0, 0), 0, false) by decide +kernel] at HB3
  go_enter Try.func4, Try.ntmps4
  go_wp2_with (first | (go_at_call 12; refine (num_any _ _).mono ?_; rintro e w' ⟨rfl, rfl⟩) | (go_at_call 11; refine (HB0.out _).mono ?_))
  rintro e w1 ⟨rfl, hb⟩
  go_upto_region 2 with (fail)
  have hX := Bx.new w1 41 [.int .i64 1, .int .i64 (-3)]
  have hb' : Below w.heap.size w (w1.alloc (.cells #[.int .i64 1, .int .i64 (-3)] 41)) := by
    have h2 := bt (((heap1 w _).alloc (by simp) _)) hb
    exact h2.alloc h2.size _
  clear hb
  obtain ⟨V0, hV0⟩ : ∃ V, w1.alloc (.cells #[.int .i64 1, .int .i64 (-3)] 41) = V := ⟨_, rfl⟩
  have BW0 := Lib.hid (show Below w.heap.size w V0 by rw [← hV0]; exact hb')
  have X0 := Lib.hid (show Bx V0 w1.heap.size 41 [.int .i64 1, .int .i64 (-3)] by rw [← hV0]; exact hX)
  rw [hV0]
  clear hb' hX hV0
  go_wp2_with (first | (go_at_call 12; refine (num_any _ _).mono ?_; rintro e w' ⟨rfl, rfl⟩) | (go_at_call 11; refine (HB1.out _).mono ?_))
  rintro e w2 ⟨rfl, hb⟩
  go_upto_region 3 with (fail)
  have hX := Bx.new w2 41 [.int .i64 1, .int .i64 1]
  have hb' : Below w.heap.size w (w2.alloc (.cells #[.int .i64 1, .int .i64 1] 41)) := by
    have h2 := bt (((heap1 V0 _).alloc (by simp) _)) hb
    have h3 := bt BW0.out h2
    exact h3.alloc h3.size _
  have hX0 := (X0.out.below (bt (((heap1 V0 _).alloc (by simp) _)) hb) X0.out.lt).alloc (.cells #[.int .i64 1, .int .i64 1] 41)
  clear hb
  obtain ⟨V1, hV1⟩ : ∃ V, w2.alloc (.cells #[.int .i64 1, .int .i64 1] 41) = V := ⟨_, rfl⟩
  have BW1 := Lib.hid (show Below w.heap.size w V1 by rw [← hV1]; exact hb')
  have X1 := Lib.hid (show Bx V1 w2.heap.size 41 [.int .i64 1, .int .i64 1] by rw [← hV1]; exact hX)
  replace X0 := Lib.hid (show Bx V1 w1.heap.size 41 [.int .i64 1, .int .i64 (-3)] by rw [← hV1]; exact hX0)
  rw [hV1]
  clear hb' hX hV1 hX0
  go_wp2_with (first | (go_at_call 12; refine (num_any _ _).mono ?_; rintro e w' ⟨rfl, rfl⟩) | (go_at_call 11; refine (HB2.out _).mono ?_))
  rintro e w3 ⟨rfl, hb⟩
  go_upto_region 4 with (fail)
  have hX := Bx.new w3 41 [.int .i64 0, .int .i64 0]
  have hb' : Below w.heap.size w (w3.alloc (.cells #[.int .i64 0, .int .i64 0] 41)) := by
    have h2 := bt (((heap1 V1 _).alloc (by simp) _)) hb
    have h3 := bt BW1.out h2
    exact h3.alloc h3.size _
  have hX0 := (X0.out.below (bt (((heap1 V1 _).alloc (by simp) _)) hb) X0.out.lt).alloc (.cells #[.int .i64 0, .int .i64 0] 41)
  have hX1 := (X1.out.below (bt (((heap1 V1 _).alloc (by simp) _)) hb) X1.out.lt).alloc (.cells #[.int .i64 0, .int .i64 0] 41)
  clear hb
  obtain ⟨V2, hV2⟩ : ∃ V, w3.alloc (.cells #[.int .i64 0, .int .i64 0] 41) = V := ⟨_, rfl⟩
  have BW2 := Lib.hid (show Below w.heap.size w V2 by rw [← hV2]; exact hb')
  replace X0 := Lib.hid (show Bx V2 w1.heap.size 41 [.int .i64 1, .int .i64 (-3)] by rw [← hV2]; exact hX0)
  replace X1 := Lib.hid (show Bx V2 w2.heap.size 41 [.int .i64 1, .int .i64 1] by rw [← hV2]; exact hX1)
  rw [hV2]
  clear hb' hX hV2 hX0 hX1
  go_wp2_with (first | (go_at_call 12; refine (num_any _ _).mono ?_; rintro e w' ⟨rfl, rfl⟩) | (go_at_call 11; refine (HB3.out _).mono ?_))
  rintro e w4 ⟨rfl, hb⟩
  go_upto_region 5 with (fail)
  have hX := Bx.new w4 41 [.int .i64 0, .int .i64 0]
  have hb' : Below w.heap.size w (w4.alloc (.cells #[.int .i64 0, .int .i64 0] 41)) := by
    have h2 := bt (((heap1 V2 _).alloc (by simp) _)) hb
    have h3 := bt BW2.out h2
    exact h3.alloc h3.size _
  have hX0 := (X0.out.below (bt (((heap1 V2 _).alloc (by simp) _)) hb) X0.out.lt).alloc (.cells #[.int .i64 0, .int .i64 0] 41)
  have hX1 := (X1.out.below (bt (((heap1 V2 _).alloc (by simp) _)) hb) X1.out.lt).alloc (.cells #[.int .i64 0, .int .i64 0] 41)
  clear hb
  obtain ⟨V3, hV3⟩ : ∃ V, w4.alloc (.cells #[.int .i64 0, .int .i64 0] 41) = V := ⟨_, rfl⟩
  have BW3 := Lib.hid (show Below w.heap.size w V3 by rw [← hV3]; exact hb')
  replace X0 := Lib.hid (show Bx V3 w1.heap.size 41 [.int .i64 1, .int .i64 (-3)] by rw [← hV3]; exact hX0)
  replace X1 := Lib.hid (show Bx V3 w2.heap.size 41 [.int .i64 1, .int .i64 1] by rw [← hV3]; exact hX1)
  rw [hV3]
  clear hb' hX hV3 hX0 hX1
  have hbs : w.heap.size ≤ V3.heap.size := BW3.out.size
  have hH := Hp.new46 V3 w.heap.size hbs
  have hX0 := X0.out.alloc (.cells #[.slice none 0 0, .int .i64 0] 39)
  have hX1 := X1.out.alloc (.cells #[.slice none 0 0, .int .i64 0] 39)
  have hb := bt BW3.out (heap1 V3 (.cells #[.slice none 0 0, .int .i64 0] 39))
  go_upto_region 6 with (fail)
  obtain ⟨V4, hV4⟩ : ∃ V, V3.alloc (.cells #[.slice none 0 0, .int .i64 0] 39) = V := ⟨_, rfl⟩
  rw [hV4] at hH hX0 hX1 hb ⊢
  clear hV4
  generalize V3.heap.size = g at *
  have HC := Lib.hid (new_any hH 2)
  have HH := Lib.hid hH
  have HB := Lib.hid hb
  have HX := Lib.hid (And.intro hX0 hX1)
  clear hH hb hX0 hX1
  go_wp2_with (go_at_call 7; refine HC.out.mono ?_)
  rintro e w5 ⟨he, v, vs, h5, F5, hFp⟩
  rw [show newV [] 2 = ((3, 1), 0, true) by decide +kernel] at he
  rw [show newH [] 2 = [[0, 0]] by decide +kernel] at h5
  subst he
  clear hFp
  have hX0 := HX.out.1.fr F5 (HH.out.not_fp HX.out.1 (by decide) (by decide) (by decide))
  have hX1 := HX.out.2.fr F5 (HH.out.not_fp HX.out.2 (by decide) (by decide) (by decide))
  have hb5 : Below w.heap.size w w5 := HB.out.trans (F5.to_below HB.out.size (fun x hx => HH.out.foot hx))
  go_upto_region 7 with (fail)
  have h6 := h5.below (heap1 w5 (.cells #[.int .i64 3, .int .i64 1] 41))
  have hS : S3 w1.heap.size w2.heap.size w5.heap.size (1, -3) (1, 1) (3, 1) (w5.alloc (.cells #[.int .i64 3, .int .i64 1] 41)) := ⟨hX0.alloc _, hX1.alloc _, Bx.new w5 41 [.int .i64 3, .int .i64 1]⟩
  have hb6 := bt hb5 (heap1 w5 (.cells #[.int .i64 3, .int .i64 1] 41))
  obtain ⟨V6, hV6⟩ : ∃ V, w5.alloc (.cells #[.int .i64 3, .int .i64 1] 41) = V := ⟨_, rfl⟩
  rw [hV6] at h6 hS hb6 ⊢
  clear hV6 h5 F5 hX0 hX1 hb5 HC HH HB HX HB0 HB1 HB2 HB3 X0 X1 BW0 BW1 BW2 BW3 hbs
  generalize w1.heap.size = g1 at *
  generalize w2.heap.size = g4 at *
  generalize w5.heap.size = g14 at *
  have HS := Lib.hid hS
  have H6 := Lib.hid h6
  have HB6 := Lib.hid hb6
  clear hS h6 hb6
  go_cut [93] (fun x wx => x = .bool false ∧ Hp 39 C46 wx w.heap.size g v vs [[0, 9]] ∧ S3 g1 g4 g14 (1, -3) (1, 1) (3, 1) wx ∧ Below w.heap.size w wx)
  case first =>
    have l0 : ∀ w', S3 g1 g4 g14 (1, -3) (1, 1) (3, 1) w' → w'.cell? ⟨g1, 0, none⟩ = some (.int .i64 1) := fun w' q => (q.1.cell 0).trans rfl
    have l1 : ∀ w', S3 g1 g4 g14 (1, -3) (1, 1) (3, 1) w' → w'.cell? ⟨g1, 1, none⟩ = some (.int .i64 (-3)) := fun w' q => (q.1.cell 1).trans rfl
    have l2 : ∀ w', S3 g1 g4 g14 (1, -3) (1, 1) (3, 1) w' → w'.cell? ⟨g4, 0, none⟩ = some (.int .i64 1) := fun w' q => (q.2.1.cell 0).trans rfl
    have l3 : ∀ w', S3 g1 g4 g14 (1, -3) (1, 1) (3, 1) w' → w'.cell? ⟨g4, 1, none⟩ = some (.int .i64 1) := fun w' q => (q.2.1.cell 1).trans rfl
    have l4 : ∀ w', S3 g1 g4 g14 (1, -3) (1, 1) (3, 1) w' → w'.cell? ⟨g14, 0, none⟩ = some (.int .i64 3) := fun w' q => (q.2.2.cell 0).trans rfl
    have l5 : ∀ w', S3 g1 g4 g14 (1, -3) (1, 1) (3, 1) w' → w'.cell? ⟨g14, 1, none⟩ = some (.int .i64 1) := fun w' q => (q.2.2.cell 1).trans rfl
    have q1 := run_neq23
    have hq6 : Hp 39 C46 V6.drew w.heap.size g v vs [[0, 0]] := H6.out.below (Below.refl _ _).drew
    have hs6 : S3 g1 g4 g14 (1, -3) (1, 1) (3, 1) V6.drew := HS.out.below (Below.refl _ _).drew
    have hb6 : Below w.heap.size w V6.drew := HB6.out.drew
    have HZ := Lib.hid (fun W (q : Hp 39 C46 W w.heap.size g v vs [[0, 0]]) => set_any q 3 1 1 1 1 9)
    rw [show setH [[0, 0]] 3 1 1 1 1 9 = [[0, 9]] by decide +kernel, show wrongH [[0, 0]] 3 1 1 1 = 0 by decide +kernel] at HZ
    go_region_held3 (fun w' => S3 g1 g4 g14 (1, -3) (1, 1) (3, 1) w') (first | assumption | go_keep)
      (first | (go_at_call 12; refine (HN.out _ _).mono ?_; rintro e w1 ⟨rfl, hb1⟩; have hh1 := Hp.below (by assumption) hb1; have hs1 := S3.below (by assumption) hb1; have hbb := bt (by assumption) hb1) | (go_at_call 13; refine (HZ.out _ (by assumption)).mono ?_; rintro e w1 ⟨rfl, hh9, F9⟩; have hs1 := S3.hp (by assumption) (by assumption : Hp 39 C46 _ w.heap.size g v vs [[0, 0]]) (by decide) F9))
    all_goals (go_wp2_with fail; go_meet; exact ⟨rfl, hh9, hs1, hbb.trans (F9.to_below hbb.size (fun x hx => hh1.foot hx))⟩)
  case rest =>
    obtain ⟨rfl, h7, hS, hb⟩ := hcut
    obtain ⟨V7, rfl⟩ : ∃ V, V = wc := ⟨_, rfl⟩
    have H7 := Lib.hid h7
    have S7 := Lib.hid hS
    have B7 := Lib.hid hb
    clear h7 hS hb
    go_upto_region 9 with (fail)
    have HG9 := Lib.hid (fun W' (q : Below V7.heap.size V7 W') => get_any (H7.out.below q) 3 1 1 1)
    rw [show getV [[0, 9]] 3 1 1 1 = ((1, 9), 0) by decide +kernel] at HG9
    go_cut [17, 18] (fun p x wx => ∃ gg : Nat, p = .pointer (some ⟨gg, 0, none⟩) ∧ x = .int .i64 0 ∧ Below V7.heap.size V7 wx ∧ gg < wx.heap.size ∧ wx.cell? ⟨gg, 0, none⟩ = some (.int .i64 1) ∧ wx.cell? ⟨gg, 1, none⟩ = some (.int .i64 9))
    case first =>
      have l4 : ∀ w', Below V7.heap.size V7 w' → w'.cell? ⟨g14, 0, none⟩ = some (.int .i64 3) := fun w' q => ((S7.out.below q).2.2.cell 0).trans rfl
      have l5 : ∀ w', Below V7.heap.size V7 w' → w'.cell? ⟨g14, 1, none⟩ = some (.int .i64 1) := fun w' q => ((S7.out.below q).2.2.cell 1).trans rfl
      go_region_held3 (fun w' => Below V7.heap.size V7 w') (first | exact (Below.refl _ _).drew | exact bt (by assumption) (by assumption) | exact realloc (by assumption) (by assumption) | exact below2 (by assumption) (by assumption) | exact below2 (by assumption) (Nat.le_refl _) | exact Below.alloc (by assumption) (Below.size (by assumption)) _ | go_keep)
        (first | (go_at_call 12; refine (HN.out _ _).mono ?_; rintro e w1 ⟨rfl, hb1⟩; obtain ⟨hcc, hff, hnn⟩ := bcell3 hb1; have hzz : V7.heap.size ≤ w1.heap.size := (bt (by assumption) hb1).size; try (have hyy : V7.heap.size < w1.heap.size := (by have hq := hb1.size; (try rw [World.size_alloc] at hq); first | exact Nat.lt_of_lt_of_le (by assumption) hq | (simp at hq; omega)))) | (go_at_call 14; refine (HG9.out _ (by assumption)).mono ?_; rintro e w1 ⟨rfl, hb1⟩; obtain ⟨hcc, hff, hnn⟩ := bcell3 hb1; have hzz : V7.heap.size ≤ w1.heap.size := (bt (by assumption) hb1).size; try (have hyy : V7.heap.size < w1.heap.size := (by have hq := hb1.size; (try rw [World.size_alloc] at hq); first | exact Nat.lt_of_lt_of_le (by assumption) hq | (simp at hq; omega)))))
      all_goals (go_wp2_with fail; go_meet; refine ⟨_, rfl, rfl, by assumption, ?_, ?_, ?_⟩)
      all_goals simp (maxDischargeDepth := 8) [go_sem, *]
    case rest =>
      obtain ⟨g17, rfl, rfl, hb, hlt, c0, c1⟩ := hcut
      obtain ⟨V8, rfl⟩ : ∃ V, V = wc := ⟨_, rfl⟩
      have H8 := Lib.hid (H7.out.below hb)
      have S8 := Lib.hid (S7.out.below hb)
      have B8 := Lib.hid (bt B7.out hb)
      have X17 := Lib.hid (And.intro hlt (And.intro c0 c1))
      clear hb hlt c0 c1 HG9
      go_upto_region 10 with (fail)
      have HG10 := Lib.hid (fun W' (q : Below V8.heap.size V8 W') => get_any (H8.out.below q) 3 1 1 2)
      rw [show getV [[0, 9]] 3 1 1 2 = ((0, 0), 2) by decide +kernel] at HG10
      go_cut [19, 20] (fun p x wx => ∃ gg : Nat, p = .pointer (some ⟨gg, 0, none⟩) ∧ x = .int .i64 2 ∧ Below V8.heap.size V8 wx ∧ gg < wx.heap.size ∧ wx.cell? ⟨gg, 0, none⟩ = some (.int .i64 0) ∧ wx.cell? ⟨gg, 1, none⟩ = some (.int .i64 0))
      case first =>
        have l4 : ∀ w', Below V8.heap.size V8 w' → w'.cell? ⟨g14, 0, none⟩ = some (.int .i64 3) := fun w' q => ((S8.out.below q).2.2.cell 0).trans rfl
        have l5 : ∀ w', Below V8.heap.size V8 w' → w'.cell? ⟨g14, 1, none⟩ = some (.int .i64 1) := fun w' q => ((S8.out.below q).2.2.cell 1).trans rfl
        go_region_held3 (fun w' => Below V8.heap.size V8 w') (first | exact (Below.refl _ _).drew | exact bt (by assumption) (by assumption) | exact realloc (by assumption) (by assumption) | exact below2 (by assumption) (by assumption) | exact below2 (by assumption) (Nat.le_refl _) | exact Below.alloc (by assumption) (Below.size (by assumption)) _ | go_keep)
          (first | (go_at_call 12; refine (HN.out _ _).mono ?_; rintro e w1 ⟨rfl, hb1⟩; obtain ⟨hcc, hff, hnn⟩ := bcell3 hb1; have hzz : V8.heap.size ≤ w1.heap.size := (bt (by assumption) hb1).size; try (have hyy : V8.heap.size < w1.heap.size := (by have hq := hb1.size; (try rw [World.size_alloc] at hq); first | exact Nat.lt_of_lt_of_le (by assumption) hq | (simp at hq; omega)))) | (go_at_call 14; refine (HG10.out _ (by assumption)).mono ?_; rintro e w1 ⟨rfl, hb1⟩; obtain ⟨hcc, hff, hnn⟩ := bcell3 hb1; have hzz : V8.heap.size ≤ w1.heap.size := (bt (by assumption) hb1).size; try (have hyy : V8.heap.size < w1.heap.size := (by have hq := hb1.size; (try rw [World.size_alloc] at hq); first | exact Nat.lt_of_lt_of_le (by assumption) hq | (simp at hq; omega)))))
        all_goals (go_wp2_with fail; go_meet; refine ⟨_, rfl, rfl, by assumption, ?_, ?_, ?_⟩)
        all_goals simp (maxDischargeDepth := 8) [go_sem, *]
      case rest =>
        obtain ⟨g19, rfl, rfl, hb, -, -, -⟩ := hcut
        obtain ⟨V9, rfl⟩ : ∃ V, V = wc := ⟨_, rfl⟩
        have HG11 := Lib.hid (fun W' (q : Below V9.heap.size V9 W') => get_any ((H8.out.below hb).below q) 3 0 1 0)
        rw [show getV [[0, 9]] 3 0 1 0 = ((0, 0), 3) by decide +kernel] at HG11
        have B9 := Lib.hid (bt B8.out hb)
        have hlt := Nat.lt_of_lt_of_le X17.out.1 hb.size
        have c0 := (hb.cell (p := ⟨g17, 0, none⟩) X17.out.1).trans X17.out.2.1
        have c1 := (hb.cell (p := ⟨g17, 1, none⟩) X17.out.1).trans X17.out.2.2
        have X18 := Lib.hid (And.intro hlt (And.intro c0 c1))
        clear hb hlt c0 c1 HG10
        have HZ0 := Lib.hid (fun n W => zero_any n W)
        go_upto_region 11 with (fail)
        go_wp2_with (first | (go_at_call 15; refine (HZ0.out _ _).mono ?_; rintro e w' ⟨rfl, rfl⟩) | (go_at_call 12; refine (num_any _ _).mono ?_; rintro e w' ⟨rfl, rfl⟩) | (go_at_call 14; refine (HG11.out _ ((heap1 _ _).alloc (by simp) _)).mono ?_))
        rintro e w10 ⟨rfl, hb1⟩
        have hb2 := bt ((heap1 V9 _).alloc (by simp) _) hb1
        have hlt := Nat.lt_of_lt_of_le X18.out.1 hb2.size
        have c0 := (hb2.cell (p := ⟨g17, 0, none⟩) X18.out.1).trans X18.out.2.1
        have c1 := (hb2.cell (p := ⟨g17, 1, none⟩) X18.out.1).trans X18.out.2.2
        have hbA := bt hb2 (heap1 w10 (.cells #[.int .i64 0, .int .i64 0] 41))
        have d0 := ((heap1 w10 (.cells #[.int .i64 0, .int .i64 0] 41)).cell (p := ⟨g17, 0, none⟩) hlt).trans c0
        have d1 := ((heap1 w10 (.cells #[.int .i64 0, .int .i64 0] 41)).cell (p := ⟨g17, 1, none⟩) hlt).trans c1
        clear hb1 hb2 c0 c1 hlt
        go_upto_region 12 with (fail)
        have hbB := bt B9.out hbA
        obtain ⟨VA, hVA⟩ : ∃ V, w10.alloc (.cells #[.int .i64 0, .int .i64 0] 41) = V := ⟨_, rfl⟩
        rw [hVA] at d0 d1 hbB ⊢
        have HBB := Lib.hid hbB
        clear hVA hbA hbB
        have s0 := cell_regrown d0
        have s1 := cell_regrown d1
        have q1 := run_eql23
        have cq : ∀ d os, Calls Try.prog 12 #[.int .i64 9] (grow (redrawn VA d) os) fun e w'' => e = .returned (.agg #[.int .i64 1, .int .i64 9]) ∧ ∃ p : Regrown, w'' = grow (redrawn VA p.d) p.os := fun d os => Calls.regrown_of (HN.out _ _)
        refine wp_region_quiet_below (by kernel_rfl) (by kernel_rfl) ?_
        repeat (first | go_big_quiet_step (first | exact cq _ _))
        refine wpQuiet_nil ?_
        intro _ hw'
        obtain ⟨⟨dq, osq⟩, hw''⟩ := hw'
        subst hw''
        have hbq := below_regrown VA dq osq
        generalize grow (redrawn VA dq) osq = wz at *
        have HE := Lib.hid (bt HBB.out hbq)
        clear hbq s0 s1 q1 cq
        go_wp2
        go_ret
        exact ⟨rfl, HE.out⟩
end Go.Proofs.Ytignojhijmamhaa.Va
