/- PROVED here: parts TyCa TyCb of the claim. No condition but those in each theorem's own head. -/
import Derived.Test.YtignojhijmamhaaK09
import Derived.Test.YtignojhijmamhaaK07
import Derived.Test.YtignojhijmamhaaK10
import Derived.Test.YtignojhijmamhaaK01
import Derived.Laws.Strings2
import Derived.Shelf.LaysM
import Derived.Shelf.LaysC
import Derived.Shelf.Strconv.ParseIntPublic10
import Derived.Test.YtignojhijmamhaaProg
import Derived.Lib.Join
import Derived.BigQuiet
namespace Go.Proofs.Ytignojhijmamhaa.Ty
open Go Go.RowKit
open Tr (Bx heap1 bt Nds Ints VPost BPost IPost)
def ownI (l : List Tr.Nd) : List Int := (List.range l.length).map fun p => owA l p
theorem ownI_len (l : List Tr.Nd) : (ownI l).length = l.length := by simp [ownI]
theorem ownI_at {l : List Tr.Nd} {p : Nat} (h : p < (ownI l).length) : (ownI l)[p] = owA l p := by simp [ownI]
def PrV (A : Option Addr) (n c : Nat) (O : Option Addr) (co bd bp : Nat) : Value := .agg #[.slice A n c, .slice O n co, .map (some bd), .map (some bp)]
structure Prg (w : World) (l : List Tr.Nd) (A : Option Addr) (n : Nat) (O : Option Addr) (bd bp : Nat) : Prop where
  nds : Nds w A l
  len : n = l.length
  few : n ≤ 4000
  own : Ints w O (ownI l)
  dcl : MapIs w 82 bd (dclF l 0) 5000
  prc : MapIs w 9 bp (prcF l 0) 5000
  kids : ∀ x ∈ l, x.ks.length ≤ 4000
  text : ∀ x ∈ l, x.tx.size ≤ 9223372036854775807
  ahead : Ahead l
theorem Prg.below {w w' : World} {l : List Tr.Nd} {A O : Option Addr} {n bd bp : Nat} (h : Prg w l A n O bd bp) (hb : Below w.heap.size w w') : Prg w' l A n O bd bp :=
  ⟨h.nds.below hb, h.len, h.few, h.own.below hb, h.dcl.below hb h.dcl.lt, h.prc.below hb h.prc.lt, h.kids, h.text, h.ahead⟩
theorem optG (o : Option Nat) : (o.map fun q => (q : Int)).isSome = o.isSome ∧ (o.map fun q => (q : Int)).getD 0 = (match o with | none => 0 | some q => (q : Int)) := by cases o <;> exact ⟨rfl, rfl⟩
def getZ (o : Option Nat) : Int := match o with | none => 0 | some q => (q : Int)
section
variable {w : World} {l : List Tr.Nd} {A O : Option Addr} {n bd bp : Nat}
theorem Prg.lookd (h : Prg w l A n O bd bp) (o : Int) (nm : ByteArray) (ho : (Lit.int .i64 o).wf = true) (hn : nm.size ≤ 9223372036854775807) :
    (Instr.lookup 56 (.map (some bd)) (.agg #[.int .i64 o, .string nm]) true).run Try.prog w = .ok (.tuple #[.int .i64 (getZ (dcF l o nm 0)), .bool (dcF l o nm 0).isSome]) w := by
  obtain ⟨kl, hk⟩ := keyOfC o nm ho hn
  have := h.dcl.look keyC Try.underlying56 hk
  rw [this]
  show Result.ok (Value.tuple #[.int .i64 (((dcF l o nm 0).map fun q => (q : Int)).getD 0), .bool (((dcF l o nm 0).map fun q => (q : Int)).isSome)]) w = _
  rw [(optG _).1, (optG _).2]; rfl
theorem Prg.lookd1 (h : Prg w l A n O bd bp) (o : Int) (nm : ByteArray) (ho : (Lit.int .i64 o).wf = true) (hn : nm.size ≤ 9223372036854775807) :
    (Instr.lookup 56 (.map (some bd)) (.agg #[.int .i64 o, .string nm]) false).run Try.prog w = .ok (.int .i64 (getZ (dcF l o nm 0))) w := by
  obtain ⟨kl, hk⟩ := keyOfC o nm ho hn
  have := h.dcl.look1 keyC Try.underlying56 hk
  rw [this]
  show Result.ok (Value.int .i64 (((dcF l o nm 0).map fun q => (q : Int)).getD 0)) w = _
  rw [(optG _).2]; rfl
theorem Prg.lookp (h : Prg w l A n O bd bp) (nm : ByteArray) (hn : nm.size ≤ 9223372036854775807) :
    (Instr.lookup 57 (.map (some bp)) (.string nm) true).run Try.prog w = .ok (.tuple #[.int .i64 (getZ (prF l nm 0)), .bool (prF l nm 0).isSome]) w := by
  have := h.prc.look keyS Try.underlying57 (keyOfS nm hn)
  rw [this]
  show Result.ok (Value.tuple #[.int .i64 (((prF l nm 0).map fun q => (q : Int)).getD 0), .bool (((prF l nm 0).map fun q => (q : Int)).isSome)]) w = _
  rw [(optG _).1, (optG _).2]; rfl
theorem Prg.lookp1 (h : Prg w l A n O bd bp) (nm : ByteArray) (hn : nm.size ≤ 9223372036854775807) :
    (Instr.lookup 57 (.map (some bp)) (.string nm) false).run Try.prog w = .ok (.int .i64 (getZ (prF l nm 0))) w := by
  have := h.prc.look1 keyS Try.underlying57 (keyOfS nm hn)
  rw [this]
  show Result.ok (Value.int .i64 (((prF l nm 0).map fun q => (q : Int)).getD 0)) w = _
  rw [(optG _).2]; rfl
theorem Prg.owner_at {w0 w : World} (h : Prg w0 l A n O bd bp) (hb : Below w0.heap.size w0 w) {p : Nat} (hp : p < n) : ∃ b off, O = some ⟨b, off, none⟩ ∧ b < w.heap.size ∧ w.cell? ⟨b, off + p, none⟩ = some (.int .i64 (owA l p)) := by
  have hl : p < (ownI l).length := by rw [ownI_len, ← h.len]; exact hp
  obtain ⟨b, off, e, hlt, hc⟩ := h.own (by omega)
  refine ⟨b, off, e, Nat.lt_of_lt_of_le hlt hb.size, (hb.cell (p := ⟨b, off + p, none⟩) hlt).trans ?_⟩
  rw [hc p hl, ownI_at]
theorem owA_wf (l : List Tr.Nd) (p : Nat) (h : l.length ≤ 4000) : (Lit.int .i64 (owA l p)).wf = true := by
  rcases owA_range l p with e | ⟨q, e, h1, h2, _⟩
  · rw [e]; decide
  · rw [e]
    exact WalkArith.wf_i64 (by omega)
end
end Go.Proofs.Ytignojhijmamhaa.Ty
namespace Go.Proofs.Ytignojhijmamhaa.Ty
open Go Go.RowKit
open Tr (Bx heap1 bt Nds Ints VPost BPost IPost)
theorem z_eq0 {n : Nat} (h : n = 0) : ((n : Int) == 0) = true := by subst h; rfl
theorem z_ne0 {n : Nat} (h : n ≠ 0) : ((n : Int) == 0) = false := beq_eq_false_iff_ne.2 (by omega)
section
variable {w : World} {l : List Tr.Nd} {A O : Option Addr} {n bd bp : Nat}
set_option maxRecDepth 100000 in
set_option maxHeartbeats 1500000 in
theorem isNothing_any (w : World) (A O : Option Addr) (n bd bp c co : Nat) : Calls Try.prog 17 #[PrV A n c O co bd bp] w (BPost (decide (n = 0)) w) := by
  unfold PrV
  have hb0 := heap1 w (.cells #[.slice A n c, .slice O n co, .map (some bd), .map (some bp)] 59)
  have HB0 := Lib.hid hb0
  by_cases e : n = 0
  · have hz := z_eq0 e
    rw [decide_eq_true e]
    clear e
    go_enter Try.func17, Try.ntmps17
    go_wp2
    go_ret
    exact ⟨rfl, HB0.out⟩
  · have hz := z_ne0 e
    rw [decide_eq_false e]
    clear e
    go_enter Try.func17, Try.ntmps17
    go_wp2
    go_ret
    exact ⟨rfl, HB0.out⟩
set_option maxRecDepth 100000 in
set_option maxHeartbeats 1500000 in
theorem has_any (w : World) (A O : Option Addr) (n bd bp c co : Nat) (z : Int) : Calls Try.prog 22 #[PrV A n c O co bd bp, .int .i64 z] w (BPost (decide (0 ≤ z) && decide (z < (n : Int))) w) := by
  unfold PrV
  have hb0 := heap1 w (.cells #[.slice A n c, .slice O n co, .map (some bd), .map (some bp)] 59)
  have HB0 := Lib.hid hb0
  by_cases e : 0 ≤ z
  · have hz : decide (0 ≤ z) = true := decide_eq_true e
    by_cases e2 : z < (n : Int)
    · have hz2 : decide (z < (n : Int)) = true := decide_eq_true e2
      rw [hz, hz2]
      go_enter Try.func22, Try.ntmps22
      go_wp2
      go_ret
      exact ⟨rfl, HB0.out⟩
    · have hz2 : decide (z < (n : Int)) = false := decide_eq_false e2
      rw [hz, hz2]
      go_enter Try.func22, Try.ntmps22
      go_wp2
      go_ret
      exact ⟨rfl, HB0.out⟩
  · have hz : decide (0 ≤ z) = false := decide_eq_false e
    rw [hz]
    go_enter Try.func22, Try.ntmps22
    go_wp2
    go_ret
    exact ⟨rfl, HB0.out⟩
set_option maxRecDepth 100000 in
set_option maxHeartbeats 1500000 in
theorem procedure_any (h : Prg w l A n O bd bp) (c co : Nat) (nm : ByteArray) (hn : nm.size ≤ 9223372036854775807) : Calls Try.prog 38 #[PrV A n c O co bd bp, .string nm] w (Tr.IPost (optZ (prF l nm 0)) w) := by
  unfold PrV
  have hb0 := heap1 w (.cells #[.slice A n c, .slice O n co, .map (some bd), .map (some bp)] 59)
  have HB0 := Lib.hid hb0
  have HL := (h.below hb0).lookp nm hn
  cases hp : prF l nm 0 with
  | none =>
    rw [hp] at HL
    clear hp h hb0
    go_enter Try.func38, Try.ntmps38
    go_wp2
    go_ret
    exact ⟨rfl, HB0.out⟩
  | some q =>
    rw [hp] at HL
    clear hp h hb0
    go_enter Try.func38, Try.ntmps38
    go_wp2
    go_ret
    exact ⟨rfl, HB0.out⟩
set_option maxRecDepth 100000 in
set_option maxHeartbeats 1500000 in
theorem denoted_any (h : Prg w l A n O bd bp) (c co : Nat) (p : Nat) (hp : p < n) (nm : ByteArray) (hn : nm.size ≤ 9223372036854775807) : Calls Try.prog 46 #[PrV A n c O co bd bp, .int .i64 (p : Int), .string nm] w (Tr.IPost (optZ (dnA l p nm)) w) := by
  unfold PrV
  have hb0 := heap1 w (.cells #[.slice A n c, .slice O n co, .map (some bd), .map (some bp)] 59)
  have HB0 := Lib.hid hb0
  obtain ⟨b, off, rfl, hlt, hc⟩ := h.owner_at (w := w.alloc (.cells #[.slice A n c, .slice O n co, .map (some bd), .map (some bp)] 59)) hb0 hp
  have hpz : (p : Int) < (n : Int) := by omega
  have how := owA_wf l p (by rw [← h.len]; exact h.few)
  have HL := (h.below hb0).lookd (owA l p) nm how hn
  have HM := (h.below hb0).lookd (-1) nm (by decide) hn
  unfold dnA
  clear h hb0
  by_cases e : owA l p = -1
  · rw [if_pos e]
    rw [e] at hc
    clear HL how e HM
    go_enter Try.func46, Try.ntmps46
    go_wp2
    go_ret
    exact ⟨rfl, HB0.out⟩
  · rw [if_neg e]
    have he : (owA l p == -1) = false := beq_eq_false_iff_ne.2 e
    generalize owA l p = ow at *
    cases hd : dcF l ow nm 0 with
    | some q =>
      rw [hd] at HL
      clear hd how e HM
      go_enter Try.func46, Try.ntmps46
      go_wp2
      go_ret
      exact ⟨rfl, HB0.out⟩
    | none =>
      rw [hd] at HL
      cases hd2 : dcF l (-1) nm 0 with
      | some q =>
        rw [hd2] at HM
        clear hd hd2 how e
        go_enter Try.func46, Try.ntmps46
        go_wp2
        go_ret
        exact ⟨rfl, HB0.out⟩
      | none =>
        rw [hd2] at HM
        clear hd hd2 how e
        go_enter Try.func46, Try.ntmps46
        go_wp2
        go_ret
        exact ⟨rfl, HB0.out⟩
end
theorem lst_ne {s : ByteArray} {t : Array UInt8} (h : s ≠ ⟨t⟩) : (s.toList == t.toList) = false := beq_eq_false_iff_ne.2 fun e => h (by
  rw [ByteArray.toList_eq] at e
  cases s; simp_all)
set_option maxRecDepth 100000 in
set_option maxHeartbeats 1500000 in
theorem signType_any (s : ByteArray) (w : World) : Calls Try.prog 44 #[.string s] w (Tr.IPost (sgnT s) w) := by
  by_cases h0 : s = ⟨#[43]⟩
  · subst h0
    go_enter Try.func44, Try.ntmps44
    go_wp2
    go_ret
    exact ⟨rfl, Below.refl _ _⟩
  have q0 : (s.toList == [43]) = false := lst_ne h0
  by_cases h1 : s = ⟨#[45]⟩
  · subst h1
    go_enter Try.func44, Try.ntmps44
    go_wp2
    go_ret
    exact ⟨rfl, Below.refl _ _⟩
  have q1 : (s.toList == [45]) = false := lst_ne h1
  by_cases h2 : s = ⟨#[42]⟩
  · subst h2
    go_enter Try.func44, Try.ntmps44
    go_wp2
    go_ret
    exact ⟨rfl, Below.refl _ _⟩
  have q2 : (s.toList == [42]) = false := lst_ne h2
  by_cases h3 : s = ⟨#[47]⟩
  · subst h3
    go_enter Try.func44, Try.ntmps44
    go_wp2
    go_ret
    exact ⟨rfl, Below.refl _ _⟩
  have q3 : (s.toList == [47]) = false := lst_ne h3
  by_cases h4 : s = ⟨#[37]⟩
  · subst h4
    go_enter Try.func44, Try.ntmps44
    go_wp2
    go_ret
    exact ⟨rfl, Below.refl _ _⟩
  have q4 : (s.toList == [37]) = false := lst_ne h4
  have e : sgnT s = 2 := by unfold sgnT; rw [if_neg (by simp [h0, h1, h2, h3, h4])]
  rw [e]
  clear e h0 h1 h2 h3 h4
  go_enter Try.func44, Try.ntmps44
  go_wp2
  go_ret
  exact ⟨rfl, Below.refl _ _⟩
section
variable {w : World} {l : List Tr.Nd} {A O : Option Addr} {n bd bp : Nat}
set_option maxRecDepth 100000 in
set_option maxHeartbeats 1500000 in
theorem calleeName_any (h : Prg w l A n O bd bp) (c co : Nat) (p k : Nat) (hp : p < n) {ks : List Int} (hks : (ndA l p).ks = (k : Int) :: ks) (hk : k < n) : Calls Try.prog 55 #[PrV A n c O co bd bp, .int .i64 (p : Int)] w (VPost (.string (calN l p)) w) := by
  unfold PrV
  have hb0 := heap1 w (.cells #[.slice A n c, .slice O n co, .map (some bd), .map (some bp)] 59)
  have HB0 := Lib.hid hb0
  have hpl : p < l.length := by rw [← h.len]; exact hp
  have hkl : k < l.length := by rw [← h.len]; exact hk
  have hkz : (k : Int) < (n : Int) := by omega
  have hpz : (p : Int) < (n : Int) := by omega
  obtain ⟨bA, off, K, cK, rfl, hlt, x0, x1, x2, x3, x4, hI⟩ := node_at h.nds hb0 p hpl
  obtain ⟨bB, off2, K2, cK2, e2, hlt2, y0, y1, y2, y3, y4, hI2⟩ := node_at h.nds hb0 k hkl
  cases e2
  rw [← ndA_eq hpl] at x4 hI
  rw [← ndA_eq hkl] at y3
  have he : calN l p = (ndA l k).tx := by unfold calN; rw [kidA_0 hks]
  rw [he]
  rw [hks] at x4 hI
  have hlen : ((k : Int) :: ks).length = ks.length + 1 := rfl
  rw [hlen] at x4
  obtain ⟨bk, ok, rfl, hbk, hck⟩ := hI (by simp)
  have hc0 : (w.alloc (.cells #[.slice (some ⟨bA, off, none⟩) n c, .slice O n co, .map (some bd), .map (some bp)] 59)).cell? ⟨bk, ok, none⟩ = some (.int .i64 (k : Int)) := (hb0.cell (p := ⟨bk, ok, none⟩) hbk).trans (hck 0 (by simp))
  have hml : (0 : Int) < ((ks.length + 1 : Nat) : Int) := by omega
  generalize ks.length + 1 = m at *
  generalize (ndA l (k : Int)).tx = tx at *
  clear h hI2 y0 y1 y2 y4 x0 x1 x2 x3 hks hck hb0 hI he
  go_enter Try.func55, Try.ntmps55
  go_wp2
  go_upto_region 1 with (fail)
  go_quiet (fail)
  go_wp2
  go_ret
  exact ⟨rfl, Tk.below_drewN HB0.out _⟩
end
end Go.Proofs.Ytignojhijmamhaa.Ty
