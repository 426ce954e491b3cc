/- PROVED here: the contract of proc. No condition but those in each theorem's own head. -/
import Derived.Test.YtdoeinjplgeadaaGreatDoorQe
namespace Go.Proofs.YtdoeinjplgeadaaGreatDoor
open Go Go.RowKit
open Tr (Bx heap1 bt gen_world ret_int ret_bool cell_same)

theorem Rw.rebase {X : Nat → Prop} {w00 w0 w : World} {base g c : Nat} {A : Option Addr} {ts : List Tok} {V00 V0 V : Value} {s : St} {v : Value} {l : List Int} (h : Rw X w0 V0 w base g A c ts V s v l) (f : Fo w00 w0 g V00 V0) (hX : ∀ b, X b → b < w00.heap.size) (hb : base ≤ w00.heap.size) : Rw X w00 V00 w base g A c ts V s v l :=
  ⟨h.z, ⟨h.own.1, h.own.2.imp id (fun ⟨b, cap, cur, e1, e2, e3⟩ => ⟨b, cap, cur, e1, Nat.le_trans f.fr.size e2, e3⟩)⟩, f.trans h.fo, hX, hb⟩
set_option maxRecDepth 100000 in
set_option maxHeartbeats 1500000 in
theorem proc_z {X : Nat → Prop} {w : World} {base g c : Nat} {A : Option Addr} {ts : List Tok} {V : Value} {s : St} {f : Nat} (h : Pz X w base g A c ts V s) (hne : procM ts (run ts f) s ≠ .out) : Calls Tryz.prog 42 #[.pointer (some ⟨g, 0, none⟩)] w (IPost X base g A c ts V w (procM ts (run ts f) s)) := by
  have hZ := run_z h.ok f
  have hk : Nk s 0 (procM ts (run ts f) s) := nk_proc ts (run_nk ts f) s
  obtain ⟨R, HR⟩ : ∃ R, R = procM ts (run ts f) s := ⟨_, rfl⟩
  rw [← HR] at hk hne ⊢
  unfold procM at HR
  dsimp only at HR
  have HK := Lib.hid (And.intro HR (And.intro hne (And.intro hk (And.intro h.hn hZ))))
  have HB := Lib.hid (expect_z h wProc (by decide))
  have hf2 := field36_2
  have hf3 := field36_3
  have hmf : ∀ (fn : Fn) (first cap : Array Value) (w : World), (Instr.makeFunc fn first cap).run Tryz.prog w = .ok (.func fn first cap) w := fun _ _ _ _ => rfl
  clear HR hk hne h hZ
  go_enter Tryz.func42, Tryz.ntmps42
  go_wp2_with (first | (go_at_call 71; refine HB.out.mono ?_; rintro e w1 (⟨p, er, hr, rfl, hF⟩ | ⟨s1, hr1, rfl, hz1, hF1⟩) <;> first | replace hr1 := Lib.hid hr1 | replace hr := Lib.hid hr) | (go_at_call 73; refine (name_z hz1).mono ?_; rintro e w2 (⟨p, er, hr, rfl, hF⟩ | ⟨s2, hr2, rfl, hz2, hF2⟩) <;> first | replace hr2 := Lib.hid hr2 | replace hr := Lib.hid hr) | (go_at_call 74; refine (plist_z (f := f) (hz2.below (heap1 _ _)) (Rs.step_in (Rs.step (Rs.step HK.out.1 hr1.out) hr2.out) HK.out.2.1)).mono ?_))
  · exact ⟨rfl, .inl ⟨p, er, Rs.step_no HK.out.1 hr.out, rfl, hF⟩⟩
  · exact ⟨rfl, .inl (np_after hF1 (Rs.step_no (Rs.step HK.out.1 hr1.out) hr.out) hF)⟩
  rintro e w3 (⟨p, er, hr, rfl, hF⟩ | ⟨l3, s3, V3, v3, hr3, rfl, hw3, hl3⟩) <;> first | replace hr3 := Lib.hid hr3 | replace hr := Lib.hid hr
  · go_wp2
    exact ⟨rfl, .inl (np_after ((hF1.trans hF2).trans (Fo.below (heap1 _ _))) (Rs.step_no (Rs.step (Rs.step HK.out.1 hr1.out) hr2.out) hr.out) hF)⟩
  have hS3 := hz2.box (l := [.int .i64 3, .int .i64 0, .int .i64 ((tkn ts s).p : Int), .string (bs (tkn ts s1).s), .slice none 0 0]) hw3.fo
  have HR3 := Rs.step (Rs.step (Rs.step HK.out.1 hr1.out) hr2.out) hr3.out
  have hg2 := hz2.new.1
  replace hw3 := hw3.rebase (Fo.below (heap1 _ _)) hz2.hX hz2.hb
  have HF0 := Lib.hid (hF1.trans hF2)
  have hbb : base ≤ w2.heap.size := hz2.hb
  have hlw : w2.heap.size < w3.heap.size := hS3.1.lt
  clear hr1 hr2 hr3 hz1 hz2 hF1 hF2 HB
  have HS := Lib.hid (sees_z hw3.z [123])
  cases q : sees ts [123] s3 with
  | true =>
    rw [q] at HS
    rw [if_pos q] at HR3
    have HRt := Rs.step HR3 rfl
    have HL3 := Lib.hid (show l3.length ≤ 100000 by have := hw3.z.len; omega)
    have HX3 := Lib.hid (And.intro hw3 (And.intro hS3 HRt))
    clear q HR3 HRt hw3 hS3 hl3
    go_wp2_with (go_at_call 41; refine HS.out.mono ?_)
    rintro e w4 ⟨rfl, hb4⟩
    obtain ⟨hw3, hS3, HRt⟩ := HX3.out
    have hwt := hw3.below hb4
    have hSt := hS3.1.below hb4 hS3.1.lt
    have hVt := hS3.2
    clear hw3 hS3 HX3 HS
    have HBt := Lib.hid (begin_z hwt.z [123] (by decide))
    have HXt := Lib.hid (And.intro hwt (And.intro hSt (And.intro hVt HRt)))
    clear hwt hSt hVt HRt
    go_wp2_with (first | (go_at_call 77; refine HBt.out.mono ?_; rintro e w6 (⟨p, er, hr, rfl, hF⟩ | ⟨s6, hr6, rfl, hz6, hF6⟩) <;> first | replace hr6 := Lib.hid hr6 | replace hr := Lib.hid hr) | (go_at_call 40; refine (vars_z (f := f) hz6 5 (Rs.step_in (Rs.step HXt.out.2.2.2 hr6.out) HK.out.2.1)).mono ?_))
    · exact ⟨rfl, .inl (np_after (HF0.out.trans HXt.out.1.fo) (Rs.step_no HXt.out.2.2.2 hr.out) hF)⟩
    rintro e w7 (⟨p, er, hr, rfl, hF⟩ | ⟨l7, s7, V7, v7, hr7, rfl, hw7, hl7⟩) <;> first | replace hr7 := Lib.hid hr7 | replace hr := Lib.hid hr
    · go_wp2
      exact ⟨rfl, .inl (np_after (HF0.out.trans (HXt.out.1.step hz6 hF6).fo) (Rs.step_no (Rs.step HXt.out.2.2.2 hr6.out) hr.out) hF)⟩
    obtain ⟨hwt, hSt, hVt, HRt⟩ := HXt.out
    have hkids := (hwt.step hz6 hF6).step hw7.pz hw7.fo
    have hS6 := hF6.bx hSt hg2 hVt
    have hS7 := hw7.fo.bx hS6.1 hg2 hS6.2
    have HR7 := Lib.hid (Rs.step (Rs.step HRt hr6.out) hr7.out)
    have HO := Lib.hid (show 1 ≤ s7.op by
      have a := beg_op hwt.z.ok (by decide) hwt.z.px.nx hr6.out
      have b := okr_ok ((HK.out.2.2.2.2.ok s6 a.2.1).2.2.2.2.2.2.1 5 [] (.inl trivial)) hr7.out
      omega)
    have HLN := Lib.hid (show l3.length + l7.length ≤ 200000 by
      have a := hw7.z.len
      have b := hwt.z.len
      have c1 := HL3.out
      omega)
    have HX7 := Lib.hid (And.intro hkids (And.intro hw7 hS7))
    clear hwt hSt hVt HRt hkids hS6 hS7 hz6 hF6 hw7 hr6 hr7
    go_upto_region 8 with (at_builtin; refine rw_appends2 rfl _ _ rfl HX7.out.1 HX7.out.2.1 rfl rfl (by have a := HLN.out; omega) ?_; intro v8 w8 hw8 hB8)
    have hS : Bx { w8 with drawn := w8.drawn + 1 } w2.heap.size 39 [.int .i64 3, .int .i64 0, .int .i64 ((tkn ts s).p : Int), .string (bs (tkn ts s1).s), .slice none 0 0] := hB8 _ _ _ (by decide) HX7.out.2.2.1
    have hw8 : Rw X _ V { w8 with drawn := w8.drawn + 1 } base g A c ts V7 s7 v8 (l3 ++ l7) := hw8.below (bdrew (Below.refl _ _))
    have hV8 := HX7.out.2.2.2
    clear hB8
    refine wp_region_held (S := fun w' => Bx w' w2.heap.size 39 [.int .i64 3, .int .i64 0, .int .i64 ((tkn ts s).p : Int), .string (bs (tkn ts s1).s), .slice none 0 0]) (by kernel_rfl) ?_
    refine h_pure 0 ({ dst := some 32, op := Op.move (Operand.tmp 0), type := 54, pos := "grammar.go:68", after := #[], guard := none } : Oper) (.pointer (some ⟨g, 0, none⟩)) (by kernel_rfl) rfl (by kernel_rfl) (by kernel_rfl) (fun _ _ _ h => h) rfl (y_move rfl rfl) hS ?_
    simp only [Act.put, List.setIfInBounds_toArray, List.set_cons_zero, List.set_cons_succ]
    refine h_pure 1 ({ dst := some 33, op := Op.load 39 (Operand.tmp 4), type := 39, pos := "grammar.go:68", after := #[], guard := none } : Oper) (.agg #[.int .i64 3, .int .i64 0, .int .i64 ((tkn ts s).p : Int), .string (bs (tkn ts s1).s), .slice none 0 0]) (by kernel_rfl) rfl (by kernel_rfl) (by kernel_rfl) (fun _ _ _ h => h) rfl (y_load rfl rfl (fun w' q => run_load39 q)) hS ?_
    simp only [Act.put, List.setIfInBounds_toArray, List.set_cons_zero, List.set_cons_succ]
    refine h_pure 2 ({ dst := some 34, op := Op.move (Operand.tmp 5), type := 37, pos := "grammar.go:68", after := #[], guard := none } : Oper) (v8) (by kernel_rfl) rfl (by kernel_rfl) (by kernel_rfl) (fun _ _ _ h => h) rfl (y_move rfl rfl) hS ?_
    simp only [Act.put, List.setIfInBounds_toArray, List.set_cons_zero, List.set_cons_succ]
    refine h_pure 3 ({ dst := some 35, op := Op.move (Operand.tmp 0), type := 54, pos := "grammar.go:68", after := #[], guard := none } : Oper) (.pointer (some ⟨g, 0, none⟩)) (by kernel_rfl) rfl (by kernel_rfl) (by kernel_rfl) (fun _ _ _ h => h) rfl (y_move rfl rfl) hS ?_
    simp only [Act.put, List.setIfInBounds_toArray, List.set_cons_zero, List.set_cons_succ]
    refine h_pure 4 ({ dst := some 36, op := Op.move (Operand.tmp 6), type := 3, pos := "grammar.go:68", after := #[], guard := none } : Oper) (.int .i64 ((tkn ts s3).p : Int)) (by kernel_rfl) rfl (by kernel_rfl) (by kernel_rfl) (fun _ _ _ h => h) rfl (y_move rfl rfl) hS ?_
    simp only [Act.put, List.setIfInBounds_toArray, List.set_cons_zero, List.set_cons_succ]
    refine h_callx 5 ({ dst := some 37, op := Op.call { callee := Callee.value (Operand.func 78), args := #[Operand.tmp 35, Operand.tmp 36], argTypes := #[54, 3] }, type := 3, pos := "grammar.go:68", after := #[{ on := 3, ground := Ground.data }, { on := 4, ground := Ground.data }], guard := none } : Oper) (args := #[.pointer (some ⟨g, 0, none⟩), .int .i64 ((tkn ts s3).p : Int)]) own78 rfl rfl (by kernel_rfl) rfl rfl ((HK.out.2.2.2.2.z _ _ base g A c V7 s7 hw8.z).2.2.2 _ HO.out (Rs.step_in HR7.out HK.out.2.1)) ?_
    rintro e w9 (⟨p, er, hr, rfl, hF⟩ | ⟨x9, s9, V9, hr9, rfl, hz9, hF9⟩)
    · exact .inl ⟨_, rfl, rfl, .inl (np_after (HF0.out.trans hw8.fo) (Rs.step_no HR7.out hr) hF)⟩
    have hS9 := hF9.bx hS hg2 hV8
    have hw9 := hw8.step hz9 hF9
    refine .inr ⟨_, rfl, hS9.1, ?_⟩
    simp only [Act.put, List.setIfInBounds_toArray, List.set_cons_zero, List.set_cons_succ]
    refine h_one 6 ({ dst := some 38, op := Op.buildSlice 37 1 #[(0, Operand.tmp 37)], type := 37, pos := "grammar.go:68", after := #[{ on := 5, ground := Ground.data }], guard := none } : Oper) rfl (by kernel_rfl) rfl (slice1 rfl rfl ⟨hS9.1.alloc _, ?_⟩) 
    simp only [Act.put, List.setIfInBounds_toArray, List.set_cons_zero, List.set_cons_succ]
    refine h_one 7 ({ dst := some 39, op := Op.call { callee := Callee.builtin Builtin.append, args := #[Operand.tmp 34, Operand.tmp 38], argTypes := #[37, 37] }, type := 37, pos := "grammar.go:68", after := #[{ on := 2, ground := Ground.data }, { on := 6, ground := Ground.data }, { on := 5, ground := Ground.chain }], guard := none } : Oper) rfl (by kernel_rfl) rfl (rw_append_wp _ _ rfl x9 hw9 rfl rfl (by have a := HLN.out; rw [List.length_append]; omega) (fun v10 w10 hw10 hB10 => ⟨hB10 _ _ _ (by decide) hS9.1, ?_⟩)) 
    have hS10 := hB10 _ _ _ (by decide) hS9.1
    obtain ⟨K10, c10, rfl, _⟩ := hw10.kd
    simp only [Act.put, List.setIfInBounds_toArray, List.set_cons_zero, List.set_cons_succ]
    refine h_callx 8 ({ dst := some 40, op := Op.call { callee := Callee.value (Operand.func 44), args := #[Operand.tmp 32, Operand.tmp 33, Operand.tmp 39], argTypes := #[54, 39, 37] }, type := 3, pos := "grammar.go:68", after := #[{ on := 0, ground := Ground.data }, { on := 1, ground := Ground.data }, { on := 7, ground := Ground.data }, { on := 7, ground := Ground.chain }], guard := none } : Oper) (args := #[.pointer (some ⟨g, 0, none⟩), .agg #[.int .i64 3, .int .i64 0, .int .i64 ((tkn ts s).p : Int), .string (bs (tkn ts s1).s), .slice none 0 0], .slice K10 (l3 ++ l7 ++ [x9]).length c10]) own44 rfl rfl (by kernel_rfl) rfl rfl (add_z hw10.pz 3 0 ((tkn ts s).p : Int) (tkn ts s1).s none K10 0 0 _ c10 _ hw10.kds.1 rfl (Rs.step HR7.out hr9 :) HK.out.2.2.1 HK.out.2.2.2.1) ?_
    rintro e w11 (⟨p, er, hr, rfl, hF⟩ | ⟨x11, s11, V11, hr11, rfl, hz11, hF11⟩)
    · exact .inl ⟨_, rfl, rfl, .inl (np_after (HF0.out.trans hw10.fo) hr hF)⟩
    refine .inr ⟨_, rfl, (hF11.bx hS10 hg2 hS9.2).1, ?_⟩
    have hS11 := (hF11.bx hS10 hg2 hS9.2).1
    simp only [Act.put, List.setIfInBounds_toArray, List.set_cons_zero, List.set_cons_succ]
    refine h_pure 9 ({ dst := some 2, op := Op.assign (Operand.tmp 40), type := 3, pos := "grammar.go:68", after := #[{ on := 8, ground := Ground.data }, { on := 8, ground := Ground.chain }, { on := 0, ground := Ground.phase }, { on := 1, ground := Ground.phase }, { on := 2, ground := Ground.phase }, { on := 3, ground := Ground.phase }, { on := 4, ground := Ground.phase }, { on := 5, ground := Ground.phase }, { on := 6, ground := Ground.phase }, { on := 7, ground := Ground.phase }, { on := 8, ground := Ground.phase }], guard := none } : Oper) (.int .i64 x11) (by kernel_rfl) rfl (by kernel_rfl) (by kernel_rfl) (fun _ _ _ h => h) rfl (y_assign rfl rfl) hS11 ?_
    simp only [Act.put, List.setIfInBounds_toArray, List.set_cons_zero, List.set_cons_succ]
    refine wpAnyH_done (by kernel_rfl) ?_ _
    have HR12 := Lib.hid hr11
    have HF12 := Lib.hid ((HF0.out.trans hw10.fo).trans hF11)
    clear hr11 hr9 hS hS9 hS10 hS11 hw8 hw9 hw10 hz9 hF9 hF11 hB10
    go_wp2
    go_ret
    exact .inr ⟨_, s11, V11, HR12.out, rfl, hz11, HF12.out⟩
  | false =>
    rw [q] at HS
    rw [if_neg (by rw [q]; decide)] at HR3
    have HL3 := Lib.hid (show l3.length ≤ 100000 by have := hw3.z.len; omega)
    have HX3 := Lib.hid (And.intro hw3 (And.intro hS3 HR3))
    clear q HR3 hw3 hS3 hl3
    go_wp2_with (first | (go_at_call 41; refine HS.out.mono ?_; rintro e w4 ⟨rfl, hb4⟩) | (go_at_call 76; refine (typeWord_z (HX3.out.1.below hb4).z).mono ?_))
    rintro e w5 (⟨p, er, hr, rfl, hF⟩ | ⟨nv, s5, V5, hr5, rfl, hz5, hF5⟩) <;> first | replace hr5 := Lib.hid hr5 | replace hr := Lib.hid hr
    · go_wp2
      exact ⟨rfl, .inl (np_after (HF0.out.trans (HX3.out.1.below hb4).fo) (Rs.step_no HX3.out.2.2 hr.out) hF)⟩
    obtain ⟨hw3, hS3, HR3⟩ := HX3.out
    have HRt := Rs.step HR3 hr5.out
    have hw5 := (hw3.below hb4).step hz5 hF5
    have hS5 := hF5.bx (hS3.1.below hb4 hS3.1.lt) hg2 hS3.2
    have f1 := hS5.1.frozen 1
    have z1 := (hS5.1.cell 1).trans rfl
    have hSt := hS5.1.set_ 1 (.int .i64 nv)
    simp only [List.set_cons_zero, List.set_cons_succ] at hSt
    obtain ⟨W6, hW6⟩ : ∃ W6, w5.setCell ⟨w2.heap.size, 1, none⟩ (.int .i64 nv) = W6 := ⟨_, rfl⟩
    rw [hW6] at hSt
    have hVt := hS5.2
    have hFt := (HF0.out.trans hw5.fo)
    have hwt := hw5.far hS5.1 (by decide) hg2 hS5.2 (Nat.le_refl _) 1 (.int .i64 nv)
    rw [hW6] at hwt
    clear hw3 hS3 HR3 hw5 hS5 HX3 HS hz5 hF5 hFt
    have HBt := Lib.hid (begin_z hwt.z [123] (by decide))
    have HXt := Lib.hid (And.intro hwt (And.intro hSt (And.intro hVt HRt)))
    clear hwt hSt hVt HRt
    go_wp2_with (first | (go_at_call 77; refine HBt.out.mono ?_; rintro e w6 (⟨p, er, hr, rfl, hF⟩ | ⟨s6, hr6, rfl, hz6, hF6⟩) <;> first | replace hr6 := Lib.hid hr6 | replace hr := Lib.hid hr) | (go_at_call 40; refine (vars_z (f := f) hz6 5 (Rs.step_in (Rs.step HXt.out.2.2.2 hr6.out) HK.out.2.1)).mono ?_))
    · exact ⟨rfl, .inl (np_after (HF0.out.trans HXt.out.1.fo) (Rs.step_no HXt.out.2.2.2 hr.out) hF)⟩
    rintro e w7 (⟨p, er, hr, rfl, hF⟩ | ⟨l7, s7, V7, v7, hr7, rfl, hw7, hl7⟩) <;> first | replace hr7 := Lib.hid hr7 | replace hr := Lib.hid hr
    · go_wp2
      exact ⟨rfl, .inl (np_after (HF0.out.trans (HXt.out.1.step hz6 hF6).fo) (Rs.step_no (Rs.step HXt.out.2.2.2 hr6.out) hr.out) hF)⟩
    obtain ⟨hwt, hSt, hVt, HRt⟩ := HXt.out
    have hkids := (hwt.step hz6 hF6).step hw7.pz hw7.fo
    have hS6 := hF6.bx hSt hg2 hVt
    have hS7 := hw7.fo.bx hS6.1 hg2 hS6.2
    have HR7 := Lib.hid (Rs.step (Rs.step HRt hr6.out) hr7.out)
    have HO := Lib.hid (show 1 ≤ s7.op by
      have a := beg_op hwt.z.ok (by decide) hwt.z.px.nx hr6.out
      have b := okr_ok ((HK.out.2.2.2.2.ok s6 a.2.1).2.2.2.2.2.2.1 5 [] (.inl trivial)) hr7.out
      omega)
    have HLN := Lib.hid (show l3.length + l7.length ≤ 200000 by
      have a := hw7.z.len
      have b := hwt.z.len
      have c1 := HL3.out
      omega)
    have HX7 := Lib.hid (And.intro hkids (And.intro hw7 hS7))
    clear hwt hSt hVt HRt hkids hS6 hS7 hz6 hF6 hw7 hr6 hr7
    go_upto_region 8 with (at_builtin; refine rw_appends2 rfl _ _ rfl HX7.out.1 HX7.out.2.1 rfl rfl (by have a := HLN.out; omega) ?_; intro v8 w8 hw8 hB8)
    have hS : Bx { w8 with drawn := w8.drawn + 1 } w2.heap.size 39 [.int .i64 3, .int .i64 nv, .int .i64 ((tkn ts s).p : Int), .string (bs (tkn ts s1).s), .slice none 0 0] := hB8 _ _ _ (by decide) HX7.out.2.2.1
    have hw8 : Rw X _ V { w8 with drawn := w8.drawn + 1 } base g A c ts V7 s7 v8 (l3 ++ l7) := hw8.below (bdrew (Below.refl _ _))
    have hV8 := HX7.out.2.2.2
    clear hB8
    refine wp_region_held (S := fun w' => Bx w' w2.heap.size 39 [.int .i64 3, .int .i64 nv, .int .i64 ((tkn ts s).p : Int), .string (bs (tkn ts s1).s), .slice none 0 0]) (by kernel_rfl) ?_
    refine h_pure 0 ({ dst := some 32, op := Op.move (Operand.tmp 0), type := 54, pos := "grammar.go:68", after := #[], guard := none } : Oper) (.pointer (some ⟨g, 0, none⟩)) (by kernel_rfl) rfl (by kernel_rfl) (by kernel_rfl) (fun _ _ _ h => h) rfl (y_move rfl rfl) hS ?_
    simp only [Act.put, List.setIfInBounds_toArray, List.set_cons_zero, List.set_cons_succ]
    refine h_pure 1 ({ dst := some 33, op := Op.load 39 (Operand.tmp 4), type := 39, pos := "grammar.go:68", after := #[], guard := none } : Oper) (.agg #[.int .i64 3, .int .i64 nv, .int .i64 ((tkn ts s).p : Int), .string (bs (tkn ts s1).s), .slice none 0 0]) (by kernel_rfl) rfl (by kernel_rfl) (by kernel_rfl) (fun _ _ _ h => h) rfl (y_load rfl rfl (fun w' q => run_load39 q)) hS ?_
    simp only [Act.put, List.setIfInBounds_toArray, List.set_cons_zero, List.set_cons_succ]
    refine h_pure 2 ({ dst := some 34, op := Op.move (Operand.tmp 5), type := 37, pos := "grammar.go:68", after := #[], guard := none } : Oper) (v8) (by kernel_rfl) rfl (by kernel_rfl) (by kernel_rfl) (fun _ _ _ h => h) rfl (y_move rfl rfl) hS ?_
    simp only [Act.put, List.setIfInBounds_toArray, List.set_cons_zero, List.set_cons_succ]
    refine h_pure 3 ({ dst := some 35, op := Op.move (Operand.tmp 0), type := 54, pos := "grammar.go:68", after := #[], guard := none } : Oper) (.pointer (some ⟨g, 0, none⟩)) (by kernel_rfl) rfl (by kernel_rfl) (by kernel_rfl) (fun _ _ _ h => h) rfl (y_move rfl rfl) hS ?_
    simp only [Act.put, List.setIfInBounds_toArray, List.set_cons_zero, List.set_cons_succ]
    refine h_pure 4 ({ dst := some 36, op := Op.move (Operand.tmp 6), type := 3, pos := "grammar.go:68", after := #[], guard := none } : Oper) (.int .i64 ((tkn ts s5).p : Int)) (by kernel_rfl) rfl (by kernel_rfl) (by kernel_rfl) (fun _ _ _ h => h) rfl (y_move rfl rfl) hS ?_
    simp only [Act.put, List.setIfInBounds_toArray, List.set_cons_zero, List.set_cons_succ]
    refine h_callx 5 ({ dst := some 37, op := Op.call { callee := Callee.value (Operand.func 78), args := #[Operand.tmp 35, Operand.tmp 36], argTypes := #[54, 3] }, type := 3, pos := "grammar.go:68", after := #[{ on := 3, ground := Ground.data }, { on := 4, ground := Ground.data }], guard := none } : Oper) (args := #[.pointer (some ⟨g, 0, none⟩), .int .i64 ((tkn ts s5).p : Int)]) own78 rfl rfl (by kernel_rfl) rfl rfl ((HK.out.2.2.2.2.z _ _ base g A c V7 s7 hw8.z).2.2.2 _ HO.out (Rs.step_in HR7.out HK.out.2.1)) ?_
    rintro e w9 (⟨p, er, hr, rfl, hF⟩ | ⟨x9, s9, V9, hr9, rfl, hz9, hF9⟩)
    · exact .inl ⟨_, rfl, rfl, .inl (np_after (HF0.out.trans hw8.fo) (Rs.step_no HR7.out hr) hF)⟩
    have hS9 := hF9.bx hS hg2 hV8
    have hw9 := hw8.step hz9 hF9
    refine .inr ⟨_, rfl, hS9.1, ?_⟩
    simp only [Act.put, List.setIfInBounds_toArray, List.set_cons_zero, List.set_cons_succ]
    refine h_one 6 ({ dst := some 38, op := Op.buildSlice 37 1 #[(0, Operand.tmp 37)], type := 37, pos := "grammar.go:68", after := #[{ on := 5, ground := Ground.data }], guard := none } : Oper) rfl (by kernel_rfl) rfl (slice1 rfl rfl ⟨hS9.1.alloc _, ?_⟩) 
    simp only [Act.put, List.setIfInBounds_toArray, List.set_cons_zero, List.set_cons_succ]
    refine h_one 7 ({ dst := some 39, op := Op.call { callee := Callee.builtin Builtin.append, args := #[Operand.tmp 34, Operand.tmp 38], argTypes := #[37, 37] }, type := 37, pos := "grammar.go:68", after := #[{ on := 2, ground := Ground.data }, { on := 6, ground := Ground.data }, { on := 5, ground := Ground.chain }], guard := none } : Oper) rfl (by kernel_rfl) rfl (rw_append_wp _ _ rfl x9 hw9 rfl rfl (by have a := HLN.out; rw [List.length_append]; omega) (fun v10 w10 hw10 hB10 => ⟨hB10 _ _ _ (by decide) hS9.1, ?_⟩)) 
    have hS10 := hB10 _ _ _ (by decide) hS9.1
    obtain ⟨K10, c10, rfl, _⟩ := hw10.kd
    simp only [Act.put, List.setIfInBounds_toArray, List.set_cons_zero, List.set_cons_succ]
    refine h_callx 8 ({ dst := some 40, op := Op.call { callee := Callee.value (Operand.func 44), args := #[Operand.tmp 32, Operand.tmp 33, Operand.tmp 39], argTypes := #[54, 39, 37] }, type := 3, pos := "grammar.go:68", after := #[{ on := 0, ground := Ground.data }, { on := 1, ground := Ground.data }, { on := 7, ground := Ground.data }, { on := 7, ground := Ground.chain }], guard := none } : Oper) (args := #[.pointer (some ⟨g, 0, none⟩), .agg #[.int .i64 3, .int .i64 nv, .int .i64 ((tkn ts s).p : Int), .string (bs (tkn ts s1).s), .slice none 0 0], .slice K10 (l3 ++ l7 ++ [x9]).length c10]) own44 rfl rfl (by kernel_rfl) rfl rfl (add_z hw10.pz 3 nv ((tkn ts s).p : Int) (tkn ts s1).s none K10 0 0 _ c10 _ hw10.kds.1 rfl (Rs.step HR7.out hr9 :) HK.out.2.2.1 HK.out.2.2.2.1) ?_
    rintro e w11 (⟨p, er, hr, rfl, hF⟩ | ⟨x11, s11, V11, hr11, rfl, hz11, hF11⟩)
    · exact .inl ⟨_, rfl, rfl, .inl (np_after (HF0.out.trans hw10.fo) hr hF)⟩
    refine .inr ⟨_, rfl, (hF11.bx hS10 hg2 hS9.2).1, ?_⟩
    have hS11 := (hF11.bx hS10 hg2 hS9.2).1
    simp only [Act.put, List.setIfInBounds_toArray, List.set_cons_zero, List.set_cons_succ]
    refine h_pure 9 ({ dst := some 2, op := Op.assign (Operand.tmp 40), type := 3, pos := "grammar.go:68", after := #[{ on := 8, ground := Ground.data }, { on := 8, ground := Ground.chain }, { on := 0, ground := Ground.phase }, { on := 1, ground := Ground.phase }, { on := 2, ground := Ground.phase }, { on := 3, ground := Ground.phase }, { on := 4, ground := Ground.phase }, { on := 5, ground := Ground.phase }, { on := 6, ground := Ground.phase }, { on := 7, ground := Ground.phase }, { on := 8, ground := Ground.phase }], guard := none } : Oper) (.int .i64 x11) (by kernel_rfl) rfl (by kernel_rfl) (by kernel_rfl) (fun _ _ _ h => h) rfl (y_assign rfl rfl) hS11 ?_
    simp only [Act.put, List.setIfInBounds_toArray, List.set_cons_zero, List.set_cons_succ]
    refine wpAnyH_done (by kernel_rfl) ?_ _
    have HR12 := Lib.hid hr11
    have HF12 := Lib.hid ((HF0.out.trans hw10.fo).trans hF11)
    clear hr11 hr9 hS hS9 hS10 hS11 hw8 hw9 hw10 hz9 hF9 hF11 hB10
    go_wp2
    go_ret
    exact .inr ⟨_, s11, V11, HR12.out, rfl, hz11, HF12.out⟩
end Go.Proofs.YtdoeinjplgeadaaGreatDoor
