/- PROVED here: the contracts of program and onlyExpr. No condition but those in each theorem's own head. -/
import Derived.Test.YtdoeinjplgeadaaGreatDoorQf
namespace Go.Proofs.YtdoeinjplgeadaaGreatDoor
open Go Go.RowKit
open Tr (Bx heap1 bt gen_world ret_int ret_bool cell_same)

/-- a row of the grammar that hands back nothing, or refuses -/
def UPost (X : Nat → Prop) (base g : Nat) (A : Option Addr) (c : Nat) (ts : List Tok) (V : Value) (w : World) (R : Rs) (e : Ending) (w' : World) : Prop :=
  NP g V w R e w' ∨ ∃ l s' V', R = .ok l s' ∧ e = .returned (.tuple #[]) ∧ Px w' g A c ts V' s' ∧ Nodes w' X base V' s'.nd ∧ Fo w w' g V V'
set_option maxRecDepth 100000 in
set_option maxHeartbeats 1500000 in
theorem only_z {X : Nat → Prop} {w : World} {base g c : Nat} {A : Option Addr} {ts : List Tok} {V : Value} {s : St} {f : Nat} (h : Pz X w base g A c ts V s) (hne : onlyM ts (run ts f) s ≠ .out) : Calls Tryz.prog 35 #[.pointer (some ⟨g, 0, none⟩)] w (UPost X base g A c ts V w (onlyM ts (run ts f) s)) := by
  have hZ := run_z h.ok f
  obtain ⟨R, HR⟩ : ∃ R, R = onlyM ts (run ts f) s := ⟨_, rfl⟩
  rw [← HR] at hne ⊢
  unfold onlyM at HR
  have HE := Lib.hid (expr_z hZ h (Rs.step_in HR hne))
  have HK := Lib.hid (And.intro HR hne)
  clear HR hne h hZ
  go_enter Tryz.func35, Tryz.ntmps35
  go_wp2_with (first | (go_at_call 66; refine HE.out.mono ?_; rintro e w1 (⟨p, er, hr, rfl, hF⟩ | ⟨x, s1, V1, hr1, rfl, hz1, hF1⟩) <;> first | replace hr1 := Lib.hid hr1 | replace hr := Lib.hid hr) | (go_at_call 43; refine (end_z hz1).mono ?_; rintro e w2 (⟨p, er, hr, rfl, hF⟩ | ⟨s2, hr2, rfl, hz2, hF2⟩) <;> first | replace hr2 := Lib.hid hr2 | replace hr := Lib.hid hr))
  · exact ⟨rfl, .inl ⟨p, er, Rs.step_no HK.out.1 hr.out, rfl, hF⟩⟩
  · exact ⟨rfl, .inl (np_after hF1 (Rs.step_no (Rs.step HK.out.1 hr1.out) hr.out) hF)⟩
  · go_end0
    exact .inr ⟨[x], s2, V1, (Rs.step (Rs.step HK.out.1 hr1.out) hr2.out :), rfl, hz2.px, hz2.nd, hF1.trans hF2⟩
set_option maxRecDepth 100000 in
set_option maxHeartbeats 1500000 in
theorem program_z {X : Nat → Prop} {w : World} {base g c : Nat} {A : Option Addr} {ts : List Tok} {V : Value} {s : St} {f : Nat} (h : Pz X w base g A c ts V s) (hne : programM ts (run ts f) s ≠ .out) : Calls Tryz.prog 22 #[.pointer (some ⟨g, 0, none⟩)] w (UPost X base g A c ts V w (programM ts (run ts f) s)) := by
  obtain ⟨R, HR⟩ : ∃ R, R = programM ts (run ts f) s := ⟨_, rfl⟩
  rw [← HR] at hne ⊢
  unfold programM at HR
  have HV := Lib.hid (vars_z (f := f) h 2 (Rs.step_in HR hne))
  have HK := Lib.hid (And.intro HR hne)
  clear HR hne h
  go_enter Tryz.func22, Tryz.ntmps22
  go_wp2_with (go_at_call 40; refine HV.out.mono ?_)
  rintro e w1 (⟨p, er, hr, rfl, hF⟩ | ⟨l1, s1, V1, v1, hr1, rfl, hw1, hl1⟩) <;> first | replace hr1 := Lib.hid hr1 | replace hr := Lib.hid hr
  · go_wp2
    exact ⟨rfl, .inl ⟨p, er, Rs.step_no HK.out.1 hr.out, rfl, hF⟩⟩
  have HX1 := Lib.hid (And.intro (Rs.step HK.out.1 hr1.out) (And.intro hw1 hl1))
  clear hw1 hl1 hr1 HV
  go_wp2
  go_loopg [2] f (fun gk a2 wr => ∃ (l : List Int) (sl : St) (Vl v2 : Value), v2 = a2 ∧ R = ((run ts gk (.procs l) sl).bind fun ps s => (endM ts s).bind fun _ s => addM 1 0 0 [] ps s) ∧ Rw X w V wr base g A c ts Vl sl v2 l ∧ l.length ≤ sl.nx)
  case atStart => exact ⟨l1, s1, V1, _, rfl, HX1.out.1, HX1.out.2.1, HX1.out.2.2⟩
  case round =>
    clear HX1
    obtain ⟨l, sl, Vl, v2, rfl, hR, hw, hl⟩ := hrel
    cases gk with
    | zero => exact absurd hR HK.out.2
    | succ k =>
      replace hR : R = (procsM ts (run ts k) l sl).bind fun ps s => (endM ts s).bind fun _ s => addM 1 0 0 [] ps s := hR
      unfold procsM at hR
      obtain ⟨K2, c2, rfl, _⟩ := hw.kd
      have HS := Lib.hid (sees_z hw.z wProc)
      have HG := Lib.hid (And.intro hw hl)
      cases q : sees ts wProc sl with
      | true =>
        rw [q] at HS
        rw [if_pos q, Rs.assoc] at hR
        have HR := Lib.hid hR
        clear q hR hw hl
        go_wp2_with (first | (go_at_call 41; refine HS.out.mono ?_; rintro e w2 ⟨rfl, hb2⟩) | (go_at_call 42; refine (proc_z (f := k) (HG.out.1.below hb2).z (Rs.step_in HR.out HK.out.2)).mono ?_; rintro e w4 (⟨p, er, hr, rfl, hF⟩ | ⟨x4, s4, V4, hr4, rfl, hz4, hF4⟩) <;> first | replace hr4 := Lib.hid hr4 | replace hr := Lib.hid hr) | (at_builtin; refine rw_append1 rfl _ _ rfl x4 ((HG.out.1.below hb2).step hz4 hF4) rfl rfl (by have := HG.out.2; have := HG.out.1.z.len; omega) ?_; intro v6 w6 hw6))
        · exact ⟨rfl, .inl (np_after ((HG.out.1.below hb2).fo) (Rs.step_no HR.out hr.out) hF)⟩
        · go_roundg k
          case measure => go_light; omega
          case rel =>
            go_light
            refine ⟨l ++ [x4], s4, V4, _, rfl, Rs.step HR.out hr4.out, hw6, ?_⟩
            have a := okr_ok (ok_proc (o := True) (B := 0) HG.out.1.z.ok (run_z HG.out.1.z.ok k).ok HG.out.1.z.px.nx (.inl trivial)) hr4.out
            have := HG.out.2
            simp only [List.length_append, List.length_cons, List.length_nil]
            omega
      | false =>
        rw [q] at HS
        rw [if_neg (by rw [q]; decide)] at hR
        have HR := Lib.hid (Rs.step hR rfl)
        clear q hR hw hl
        go_wp2_with (first | (go_at_call 41; refine HS.out.mono ?_; rintro e w2 ⟨rfl, hb2⟩) | (go_at_call 43; refine (end_z (HG.out.1.below hb2).z).mono ?_))
        rintro e w4 (⟨p, er, hr, rfl, hF⟩ | ⟨s8, hr8, rfl, hz8, hF8⟩) <;> first | replace hr8 := Lib.hid hr8 | replace hr := Lib.hid hr
        · go_wp2
          exact ⟨rfl, .inl (np_after (HG.out.1.below hb2).fo (Rs.step_no HR.out hr.out) hF)⟩
        have hw8 := (HG.out.1.below hb2).step hz8 hF8
        have hz := hw8.pz
        have HA := Lib.hid (add_any hz.px hz.nd 1 0 0 [] none K2 0 0 l.length c2 l hw8.kds.1 rfl hz.hb hz.gb hz.hA (by have := hz.hn; have := hz.len; omega))
        have HR8 := Lib.hid (Rs.step HR.out hr8.out)
        have HF := Lib.hid hw8.fo
        clear hz8 hF8 hw8 hr8 hz
        go_wp2_with (go_at_call 44; refine HA.out.mono ?_; rintro e w9 ⟨V9, rfl, hX9, hN9, hF9, hO9⟩)
        go_end0
        exact .inr ⟨_, _, V9, HR8.out, rfl, hX9, hN9, HF.out.trans ⟨hF9, hO9⟩⟩
end Go.Proofs.YtdoeinjplgeadaaGreatDoor
