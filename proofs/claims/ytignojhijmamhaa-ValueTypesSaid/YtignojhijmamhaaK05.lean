/- PROVED here: parts TyTrD of the claim. No condition but those in each theorem's own head. -/
import Derived.Test.YtignojhijmamhaaK03
namespace Go.Proofs.Ytignojhijmamhaa.Ty.Tr
open Go Go.RowKit
def Snd (l : List Nd) (r : Int) : Prop := ∃ b, Sd l r b
open Classical in
noncomputable def sndB (l : List Nd) (r : Int) : Bool := decide (Snd l r)
open Classical in
theorem sndB_true {l : List Nd} {r : Int} (h : Snd l r) : sndB l r = true := decide_eq_true h
open Classical in
theorem sndB_false {l : List Nd} {r : Int} (h : ¬ Snd l r) : sndB l r = false := decide_eq_false h
def dpL (l : List Nd) : Nat → Nat → Nat
  | 0 => fun _ => 0
  | n + 1 => fun j => if j = n then dpK (dpL l n) (kidsAt l n) else dpL l n j
theorem dpL_lt (l : List Nd) : ∀ (n m j : Nat), j < n → n ≤ m → dpL l m j = dpL l n j := by
  intro n m j hj hm
  induction m with
  | zero => omega
  | succ m ih =>
    by_cases e : n = m + 1
    · rw [e]
    · show (if j = m then dpK (dpL l m) (kidsAt l m) else dpL l m j) = _
      rw [if_neg (by omega)]
      exact ih (by omega)
theorem dpL_U {l : List Nd} {b : Nat → Nat} {n : Nat} (hs : StU l b n) : DpU l (dpL l n) n := fun p hp => by
  rw [dpL_lt l (p + 1) n p (by omega) (by omega)]
  show (if p = p then dpK (dpL l p) (kidsAt l p) else dpL l p p) = _
  rw [if_pos rfl]
  refine dpK_congr fun k hk => ?_
  obtain ⟨m, rfl, hm, _⟩ := hs.kid hp hk
  rw [Int.toNat_natCast]
  exact (dpL_lt l p n m hm (by omega)).symm
theorem foldl_max_le {f : Int → Nat} {m : Nat} : ∀ (ks : List Int) (a : Nat), a ≤ m → (∀ k ∈ ks, f k ≤ m) → ks.foldl (fun a k => max a (f k)) a ≤ m
  | [], _, h, _ => h
  | k :: ks, a, h, hk => by
    rw [List.foldl_cons]
    exact foldl_max_le ks _ (Nat.max_le.2 ⟨h, hk k (by simp)⟩) (fun x hx => hk x (by simp [hx]))
theorem DpU.le {l : List Nd} {b d : Nat → Nat} {n : Nat} (hs : StU l b n) (h : DpU l d n) : ∀ p, p < n → d p ≤ p + 1 := by
  intro p
  induction p using Nat.strongRecOn with
  | _ p ih =>
    intro hp
    rw [h p hp]
    unfold dpK
    refine Nat.succ_le_succ (foldl_max_le (f := fun k => d k.toNat) _ 0 (Nat.zero_le _) fun k hk => ?_)
    obtain ⟨m, rfl, hm, _⟩ := hs.kid hp hk
    have := ih m hm (by omega)
    simp only [Int.toNat_natCast]
    omega
open Classical in
noncomputable def dpt (l : List Nd) (r : Int) : Nat := if Snd l r then dpL l l.length (l.length - 1) else 0
open Classical in
theorem dpt_yes {l : List Nd} {r : Int} (h : Snd l r) : dpt l r = dpL l l.length (l.length - 1) := if_pos h
open Classical in
theorem dpt_no {l : List Nd} {r : Int} (h : ¬ Snd l r) : dpt l r = 0 := if_neg h
def BPost (b : Bool) (w : World) (e : Ending) (w' : World) : Prop := e = .returned (.bool b) ∧ Below w.heap.size w w'
def IPost (i : Int) (w : World) (e : Ending) (w' : World) : Prop := e = .returned (.int .i64 i) ∧ Below w.heap.size w w'
theorem nil22 (w : World) : (binOp .neq 25 (.slice none 0 0) (.slice none 0 0)).run Try.prog w = .ok (.bool false) w := by kernel_rfl
theorem nil22' (a : Addr) (n c : Nat) (w : World) : (binOp .neq 25 (.slice (some a) n c) (.slice none 0 0)).run Try.prog w = .ok (.bool true) w := by kernel_rfl
set_option maxRecDepth 100000 in
set_option maxHeartbeats 1500000 in
theorem sound_any (A : Option Addr) (c n : Nat) (l : List Nd) (r : Int) (w : World) (hN : Nds w A l) (hn : n = l.length) (hk : ∀ x ∈ l, x.ks.length ≤ 9223372036854775807) : Calls Try.prog 66 #[.agg #[.slice A n c, .int .i64 r]] w (BPost (sndB l r) w) := by
  have hb : Below w.heap.size w (w.alloc (.cells #[.slice A n c, .int .i64 r] 24)) := heap1 _ _
  have h0 := starts_any A c n l r _ (hN.below hb) hn hk
  clear hN hk
  by_cases h : Snd l r
  · rw [sndB_true h]
    have HS := Lib.hid (show Calls Try.prog 72 #[.agg #[.slice A n c, .int .i64 r]] (w.alloc (.cells #[.slice A n c, .int .i64 r] 24)) (fun e w' => (∃ g, e = .returned (.slice (some ⟨g, 0, none⟩) n n)) ∧ Below (w.alloc (.cells #[.slice A n c, .int .i64 r] 24)).heap.size (w.alloc (.cells #[.slice A n c, .int .i64 r] 24)) w') from h0.mono (by
      rintro e w1 ⟨hb1, ⟨b, g, hS, rfl, hI, hg⟩ | ⟨hno, rfl⟩⟩
      · exact ⟨⟨g, by rw [hn]⟩, hb1⟩
      · obtain ⟨b, h⟩ := h; exact (hno b h).elim))
    clear h0 h hn
    go_enter Try.func66, Try.ntmps66
    go_wp2_with (go_at_call 72; refine HS.out.mono ?_)
    rintro e w1 ⟨⟨g, rfl⟩, hb1⟩
    have hnil := nil22' ⟨g, 0, none⟩ n n
    go_wp2
    go_ret
    exact ⟨rfl, bt hb hb1⟩
  · rw [sndB_false h]
    have HS := Lib.hid (show Calls Try.prog 72 #[.agg #[.slice A n c, .int .i64 r]] (w.alloc (.cells #[.slice A n c, .int .i64 r] 24)) (fun e w' => e = .returned (.slice none 0 0) ∧ Below (w.alloc (.cells #[.slice A n c, .int .i64 r] 24)).heap.size (w.alloc (.cells #[.slice A n c, .int .i64 r] 24)) w') from h0.mono (by
      rintro e w1 ⟨hb1, ⟨b, g, hS, rfl, hI, hg⟩ | ⟨hno, rfl⟩⟩
      · exact (h ⟨b, hS⟩).elim
      · exact ⟨rfl, hb1⟩))
    clear h0 h hn
    go_enter Try.func66, Try.ntmps66
    go_wp2_with (go_at_call 72; refine HS.out.mono ?_)
    rintro e w1 ⟨rfl, hb1⟩
    have hnil := nil22
    go_wp2
    go_ret
    exact ⟨rfl, bt hb hb1⟩
set_option maxRecDepth 100000 in
set_option maxHeartbeats 1500000 in
theorem depth_no (A : Option Addr) (c n : Nat) (l : List Nd) (r : Int) (w : World) (hN : Nds w A l) (hn : n = l.length) (hk : ∀ x ∈ l, x.ks.length ≤ 9223372036854775807) (h : ¬ Snd l r) : Calls Try.prog 52 #[.agg #[.slice A n c, .int .i64 r]] w (IPost 0 w) := by
  have hb : Below w.heap.size w (w.alloc (.cells #[.slice A n c, .int .i64 r] 24)) := heap1 _ _
  have HS := Lib.hid (sound_any A c n l r _ (hN.below hb) hn hk)
  rw [sndB_false h] at HS
  clear hN hk h hn
  go_enter Try.func52, Try.ntmps52
  go_wp2_with (go_at_call 66; refine HS.out.mono ?_; rintro e w1 ⟨rfl, hb1⟩)
  go_ret
  exact ⟨rfl, bt hb hb1⟩
set_option maxRecDepth 100000 in
set_option maxHeartbeats 1500000 in
theorem depth_yes (A : Option Addr) (c n : Nat) (l : List Nd) (r : Int) (w : World) (hN : Nds w A l) (hn : n = l.length) (hk : ∀ x ∈ l, x.ks.length ≤ 9223372036854775807) (h : Snd l r) : Calls Try.prog 52 #[.agg #[.slice A n c, .int .i64 r]] w (IPost (dpL l n (n - 1) : Int) w) := by
  have hb : Below w.heap.size w (w.alloc (.cells #[.slice A n c, .int .i64 r] 24)) := heap1 _ _
  have HS := Lib.hid (sound_any A c n l r _ (hN.below hb) hn hk)
  rw [sndB_true h] at HS
  have HN := Lib.hid hN
  have HL := Lib.hid hn
  have HK := Lib.hid hk
  obtain ⟨b, hS⟩ := h
  obtain ⟨h1, h2, h3, h4, h5⟩ := hS
  rw [← hn] at h1 h2 h3 h4
  obtain ⟨n', hn'⟩ : ∃ n', n' = n - 1 := ⟨_, rfl⟩
  have hr : r = (n' : Int) := by omega
  have hnn : n' < n := by omega
  have HNN := Lib.hid (show n = n' + 1 by omega)
  rw [← hn']
  clear hn'
  subst hr
  have HU := Lib.hid h4
  clear hN hk hn h4 h3 h5
  go_enter Try.func52, Try.ntmps52
  go_wp2_with (go_at_call 66; refine HS.out.mono ?_)
  rintro e w1 ⟨rfl, hb1⟩
  clear HS
  have e0 : ∀ (w' : World) (o : Obj), (w'.alloc o).heap.size = w'.heap.size + 1 := fun w' o => World.size_alloc w' o
  have hbb := bt hb hb1
  have hz : w.heap.size < w1.heap.size := by have := hb1.size; rw [e0] at this; omega
  have hB : Bx w1 w.heap.size 24 [.slice A n c, .int .i64 (n' : Int)] := (Bx.new w 24 _).below hb1 (by rw [e0]; omega)
  clear hb hb1
  have hct0 := hB.cell 0
  have hct1 := hB.cell 1
  simp only [List.getElem?_cons_zero, List.getElem?_cons_succ] at hct0 hct1
  have hmk := fun w' => make22 n (by omega) w'
  go_wp2
  clear hmk hct0 hct1
  go_loopw [19] (fun i wr => ∃ p : Nat, p ≤ n ∧ i = .int .i64 (p : Int) ∧ Bx wr w.heap.size 24 [.slice A n c, .int .i64 (n' : Int)] ∧ Ib wr w1.heap.size n (fun j => (dpL l p j : Int)) ∧ Below w.heap.size w wr) (fun i _ => n - (intOf i).toNat)
  case atStart => exact ⟨0, Nat.zero_le _, rfl, hB.alloc _, World.alloc_heap_new _ _, hbb.alloc hbb.size _⟩
  case round =>
    clear hbb hB
    obtain ⟨p, hp, rfl, hB, hG, hbw⟩ := hrel
    have hct0 := hB.cell 0
    have hct1 := hB.cell 1
    simp only [List.getElem?_cons_zero, List.getElem?_cons_succ] at hct0 hct1
    by_cases hlt : p < n
    · have hlz : (p : Int) < (n : Int) := by omega
      have hpl : p < l.length := by rw [← HL.out]; exact hlt
      obtain ⟨bA, off, rfl, hbl, hc⟩ := (HN.out.below hbw) (by omega)
      obtain ⟨K, ck, c0, c1, c2, c3, c4, hI⟩ := hc p hpl
      have hks : l[p].ks.length ≤ 9223372036854775807 := HK.out _ (List.getElem_mem _)
      have hkid : ∀ j (hj : j < l[p].ks.length), ∃ m : Nat, l[p].ks[j] = m ∧ m < p := fun j hj => by
        obtain ⟨m, e, hm, _⟩ := HU.out.kid hlt (k := l[p].ks[j]) (by rw [kidsAt_eq hpl]; exact List.getElem_mem _)
        exact ⟨m, e, hm⟩
      have HKID := Lib.hid hkid
      have HKA := Lib.hid (kidsAt_eq hpl)
      clear hc hkid
      generalize l[p] = x at *
      obtain ⟨kd, nn, pl, tx, ks⟩ := x
      dsimp only at c0 c1 c2 c3 c4 hI hks HKA HKID
      obtain ⟨f, hf⟩ : ∃ f : Nat → Nat, f = fun j => (ks.take j).foldl (fun a k => max a (dpL l p k.toNat)) 0 := ⟨_, rfl⟩
      have HF := Lib.hid hf
      have hf0 : f 0 = 0 := by rw [hf]; rfl
      clear hf
      go_wp2
      go_loop [6, 27] (fun u i => ∃ j : Nat, j ≤ ks.length ∧ i = .int .i64 (j : Int) ∧ u = .int .i64 (f j : Int)) (fun _ i => ks.length - (intOf i).toNat)
      case atStart => exact ⟨0, Nat.zero_le _, rfl, by rw [hf0]; rfl⟩
      case round =>
        obtain ⟨j, hj, rfl, rfl⟩ := hrel
        by_cases hjl : j < ks.length
        · have hjz : (j : Int) < (ks.length : Int) := by omega
          obtain ⟨bK, oK, rfl, hbK, hcK⟩ := hI (by omega)
          obtain ⟨m, hm, hmp⟩ := HKID.out j hjl
          have hck := hcK j hjl
          rw [hm] at hck
          have hck2 := ((heap1 wr (.cells #[.int .i64 kd, .int .i64 nn, .int .i64 pl, .string tx, .slice (some ⟨bK, oK, none⟩) ks.length ck] 55)).cell (p := ⟨bK, oK + j, none⟩) hbK).trans hck
          have hcg := (hG.alloc (.cells #[.int .i64 kd, .int .i64 nn, .int .i64 pl, .string tx, .slice (some ⟨bK, oK, none⟩) ks.length ck] 55)).cell (i := m) (by omega)
          have hfs : f (j + 1) = max (f j) (dpL l p m) := by
            rw [HF.out]
            show (ks.take (j + 1)).foldl _ 0 = _
            rw [List.take_succ_eq_append_getElem hjl, List.foldl_append, hm]; rfl
          have hfz : max (f j : Int) (dpL l p m : Int) = (f (j + 1) : Int) := by omega
          have hmn : m < n := by omega
          clear hcK hck hm
          go_wp2
          go_round
          case rel => exact ⟨j + 1, by omega, by go_num, congrArg (Value.int .i64) (by split <;> omega)⟩
          case measure => simp [intOf]; omega
        · obtain rfl : j = ks.length := by omega
          have hjz : ¬ (ks.length : Int) < (ks.length : Int) := by omega
          have hfe : f ks.length + 1 = dpL l (p + 1) p := by
            show _ = (if p = p then dpK (dpL l p) (kidsAt l p) else dpL l p p)
            rw [if_pos rfl, HKA.out, HF.out]
            show (ks.take ks.length).foldl _ 0 + 1 = _
            rw [List.take_length]; rfl
          have hfb : f ks.length ≤ 4000 := by
            have h6 := (dpL_U (fun q hq => HU.out q (by omega) : StU l b (p + 1))).le (fun q hq => HU.out q (by omega)) p (by omega)
            omega
          have HFE := Lib.hid hfe
          have hG2 := hG.alloc (.cells #[.int .i64 kd, .int .i64 nn, .int .i64 pl, .string tx, .slice K ks.length ck] 55)
          have hcg := hG2.cell hlt
          have hfg := hG2.frozen p
          clear hfe
          go_wp2
          go_roundw
          case rel =>
            refine ⟨p + 1, by omega, by go_num, ?_, ?_, ?_⟩
            · exact (hB.alloc _).far (by show w.heap.size ≠ w1.heap.size; omega) _
            · refine (hG2.set_ p _).congr fun i hi => ?_
              show _ = ((if i = p then dpK (dpL l p) (kidsAt l p) else dpL l p i : Nat) : Int)
              by_cases e : i = p
              · have h7 := HFE.out
                have h8 : dpL l (p + 1) p = dpK (dpL l p) (kidsAt l p) := if_pos rfl
                rw [if_pos e, if_pos e]; omega
              · rw [if_neg e, if_neg e]
            · exact (hbw.alloc hbw.size _).setCell (p := ⟨w1.heap.size, p, none⟩) (by show _ ≤ w1.heap.size; omega) _
          case measure => simp [intOf]; omega
    · obtain rfl : p = n := by omega
      have hlz : ¬ (p : Int) < (p : Int) := by omega
      have hcg := hG.cell (i := n') (by omega)
      go_wp2
      go_ret
      exact ⟨rfl, hbw⟩
theorem depth_any (A : Option Addr) (c n : Nat) (l : List Nd) (r : Int) (w : World) (hN : Nds w A l) (hn : n = l.length) (hk : ∀ x ∈ l, x.ks.length ≤ 9223372036854775807) : Calls Try.prog 52 #[.agg #[.slice A n c, .int .i64 r]] w (IPost (dpt l r : Int) w) := by
  by_cases h : Snd l r
  · rw [dpt_yes h, ← hn]; exact depth_yes A c n l r w hN hn hk h
  · rw [dpt_no h]; exact depth_no A c n l r w hN hn hk h
end Go.Proofs.Ytignojhijmamhaa.Ty.Tr
