/- PROVED here: the contract of the document's New. No condition but those in each theorem's own head. -/
import Derived.Test.YtefnbjkmmmdagaaMo
import Derived.Test.YtefnbjkmmmdagaaMe
import Derived.Test.YtefnbjkmmmdagaaMf
import Derived.Test.YtefnbjkmmmdagaaMk
import Derived.Test.YtefnbjkmmmdagaaMm
import Derived.Test.YtefnbjkmmmdagaaQ
import Derived.Test.YtefnbjkmmmdagaaC2
import Derived.Laws.MakeOwn
namespace Go.Proofs.Ytefnbjkmmmdagaa
open Go Go.RowKit

/-- the lattice's own block -/
def Gx (w : World) (g : Nat) (A : Option Addr) (n c : Nat) (V : Value) : Prop := w.heap[g]? = some (.cells #[.slice A n c, V] 76 (0, 0))
section
variable {w w' : World} {g n c : Nat} {A : Option Addr} {V : Value}
theorem Gx.lt (h : Gx w g A n c V) : g < w.heap.size := (Array.getElem?_eq_some_iff.1 h).1
theorem Gx.c0 (h : Gx w g A n c V) : w.cell? ⟨g, 0, none⟩ = some (.slice A n c) := (cell_of_row w g 0 _ 76 (0, 0) h).trans rfl
theorem Gx.c1 (h : Gx w g A n c V) : w.cell? ⟨g, 1, none⟩ = some V := (cell_of_row w g 1 _ 76 (0, 0) h).trans rfl
theorem Gx.frozen (h : Gx w g A n c V) (i : Nat) : w.frozen? ⟨g, i, none⟩ = false := frozen_of_row w g i _ 76 h
theorem Gx.set_ (h : Gx w g A n c V) (u : Value) : Gx (w.setCell ⟨g, 1, none⟩ u) g A n c u := (heap_setCell_same w g 1 _ 76 _ h).trans (by rfl)
theorem Gx.far (h : Gx w g A n c V) {p : Addr} (hp : g ≠ p.block) (u : Value) : Gx (w.setCell p u) g A n c V := (heap_setCell_other w p g u hp).trans h
theorem Gx.below {B : Nat} (h : Gx w g A n c V) (hb : Below B w w') (hg : g < B) : Gx w' g A n c V := (hb.block g hg).trans h
theorem Gx.grown {row : Option Nat} (h : Gx w g A n c V) (hb : w.grownBy w' row) (hg : some g ≠ row) : Gx w' g A n c V := (hb.block g h.lt hg).trans h
end
theorem alloc_new (w : World) (o : Obj) : (w.alloc o).heap[w.heap.size]? = some o := by
  show (w.heap.push o)[w.heap.size]? = some o
  simp
theorem info4 : (Try.prog.info? 4).map (fun i => (i.zero, i.size, i.bytes)) = some (some (.bool false), 1, 1) := by kernel_rfl
theorem info77 : (Try.prog.info? 77).map (fun i => (i.zero, i.size, i.bytes)) = some (some (.slice none 0 0), 1, 24) := by kernel_rfl
theorem madeB (n : Nat) : madeCells #[.bool false] n = mkB n (fun _ => false) := by
  apply Array.ext_getElem?
  intro j
  by_cases h : j < n
  · rw [mkB_get h]; simp [madeCells, h, Nat.mod_one]
  · rw [Array.getElem?_eq_none (by simp [madeCells]; omega), Array.getElem?_eq_none (by rw [mkB_size]; omega)]
theorem make77 (n : Nat) (hn : n ≤ 1000) (w : World) : (Instr.makeSlice 77 (.int .i64 (n : Int)) (.int .i64 (n : Int))).run Try.prog w = .ok (.slice (some ⟨w.heap.size, 0, none⟩) n n) (w.alloc (.cells (mkB n (fun _ => false)) 4)) := by
  have h := info4
  cases hq : Try.prog.info? 4 with
  | none => rw [hq] at h; cases h
  | some i =>
    rw [hq] at h
    simp only [Option.map_some, Option.some.injEq, Prod.mk.injEq] at h
    obtain ⟨h1, h2, h3⟩ := h
    have := run_make (P := Try.prog) w 77 4 i (.bool false) Try.underlying77 hq h1 .i64 .i64 (n : Int) (n : Int) (by omega) (Int.le_refl _) (by rw [h3]; omega) (by omega)
    rw [this, h2]
    simp only [Int.toNat_natCast, Nat.mul_one]
    rw [show (Value.bool false).cells = #[.bool false] from rfl, madeB]
theorem own_cell1 {w : World} {base n : Nat} {e : TypeId} {v : Value} {xs : List Value} (h : w.ownsRow base e 1 v n xs) (h0 : 0 < n) : ∃ rb cap, v = .slice (some ⟨rb, 0, none⟩) n cap ∧ base ≤ rb ∧ rb < w.heap.size ∧ ∀ j, j < n → w.cell? ⟨rb, j, none⟩ = xs[j]? := by
  rcases h.2 with ⟨_, e2⟩ | ⟨g, cap, cur, e1, hb, hg, h1, h2, h3, h4⟩
  · omega
  · refine ⟨g, cap, e1, hb, (Array.getElem?_eq_some_iff.1 hg).1, fun j hj => ?_⟩
    rw [cell_of_row w g j cur e (0, 0) hg, ← h4, List.getElem?_take, if_pos (by omega), Array.getElem?_toList]
/-- the rows that have been made -/
def rv (n : Nat) (R : Nat → Nat) (i : Nat) : List Value := (List.range i).map fun j => .slice (some ⟨R j, 0, none⟩) n n
structure NI (w0 : World) (base g : Nat) (A : Option Addr) (n c i : Nat) (V : Value) (R : Nat → Nat) (w : World) : Prop where
  box : Gx w g A n c V
  row : w.ownsRow base 77 1 V i (rv n R i)
  bits : ∀ j, j < i → BB w (R j) n (fun b => decide (j = b))
  ge : ∀ j, j < i → base ≤ R j
  inj : ∀ j k, j < i → k < i → R j = R k → j = k
  below : Below w0.heap.size w0 w
theorem rv_congr {n i : Nat} {R R' : Nat → Nat} (h : ∀ j, j < i → R j = R' j) : rv n R i = rv n R' i := by
  unfold rv; exact List.map_congr_left fun j hj => by rw [h j (List.mem_range.1 hj)]
theorem rv_succ (n : Nat) (R : Nat → Nat) (i : Nat) : rv n R (i + 1) = rv n R i ++ [.slice (some ⟨R i, 0, none⟩) n n] := by
  unfold rv; rw [List.range_succ, List.map_append]; rfl
theorem bb_ne_own {w : World} {base n i g : Nat} {V : Value} {xs : List Value} {f : Nat → Bool} (h : w.ownsRow base 77 1 V i xs) (hb : BB w g n f) : some g ≠ V.ownBlock := fun e => by
  rcases h.2 with ⟨e1, _⟩ | ⟨q, cap, cur, e1, _, hg, _⟩
  · rw [e1] at e; cases e
  · rw [e1] at e
    have e2 : g = q := by simpa [Value.ownBlock] using e
    subst e2
    have h2 := hg.symm.trans hb
    simp only [Option.some.injEq, Obj.cells.injEq] at h2
    exact absurd h2.2.1 (by decide)
/-- the document's lattice, all of its parts behind a block -/
def RLo (base : Nat) (A : Option Addr) (w : World) (g : Nat) (l : List ByteArray) (V : Nat → Nat → Bool) : Prop := ∃ c r cr R, RLx w g l A c r cr R V ∧ base ≤ g ∧ base ≤ r ∧ ∀ i, i < l.length → base ≤ R i
theorem RLo.lat {base : Nat} {A : Option Addr} {w : World} {g : Nat} {l : List ByteArray} {V : Nat → Nat → Bool} (h : RLo base A w g l V) : RLat w g l V := h.elim fun _ h => h.elim fun _ h => h.elim fun _ h => h.elim fun _ h => h.1.lat
theorem RLo.same {base : Nat} {A : Option Addr} {w w' : World} {g : Nat} {l : List ByteArray} {V : Nat → Nat → Bool} (h : RLo base A w g l V) (hz : w.heap.size ≤ w'.heap.size) (hk : ∀ b, b < w.heap.size → base ≤ b → w'.heap[b]? = w.heap[b]?) (hA : ∀ a, A = some a → w'.heap[a.block]? = w.heap[a.block]?) : RLo base A w' g l V := by
  obtain ⟨c, r, cr, R, hX, h1, h2, h3⟩ := h
  have k : ∀ b, b < w.heap.size → base ≤ b → ∀ o, w'.cell? ⟨b, o, none⟩ = w.cell? ⟨b, o, none⟩ := fun b hb hb2 o => by
    have := hk b hb hb2
    unfold World.cell?; rw [this]
  have lg := World.block_lt_of_cell? w _ hX.names
  refine ⟨c, r, cr, R, ⟨(k g lg h1 0).trans hX.names, fun h0 => ?_, (k g lg h1 1).trans hX.under, fun i hi => (k r (World.block_lt_of_cell? w _ (hX.rows i hi)) h2 i).trans (hX.rows i hi), fun i hi => (hk (R i) (hX.bits i hi).lt (h3 i hi)).trans (hX.bits i hi), hX.inj⟩, h1, h2, h3⟩
  obtain ⟨b, off, e, hl, hc⟩ := hX.strs h0
  refine ⟨b, off, e, Nat.lt_of_lt_of_le hl hz, fun j hj => ?_⟩
  have := hA _ e
  rw [← hc j hj]
  unfold World.cell?; rw [show w'.heap[b]? = w.heap[b]? from this]
def RNewPost (A : Option Addr) (l : List ByteArray) (ps : List (ByteArray × ByteArray)) (w : World) (e : Ending) (w' : World) : Prop :=
  (newE l ps ≠ 0 ∧ e = .returned (.tuple #[.pointer none, .int .i64 (newE l ps : Int)]) ∧ Below w.heap.size w w') ∨
  (newE l ps = 0 ∧ ∃ g V, e = .returned (.tuple #[.pointer (some ⟨g, 0, none⟩), .int .i64 0]) ∧ Below w.heap.size w w' ∧ RLo w.heap.size A w' g l V ∧ ∀ x y, x < l.length → y < l.length → V x y = (uOf l ps x).testBit y)
theorem own_belowG {w w' : World} {base e size n : Nat} {v : Value} {xs : List Value} (h : w.ownsRow base e size v n xs) (hb : Below w.heap.size w w') : w'.ownsRow base e size v n xs := by
  refine ⟨h.1, h.2.imp id ?_⟩
  rintro ⟨g, cap, cur, h1, h2, h3, h4⟩
  exact ⟨g, cap, cur, h1, h2, (hb.block g (Array.getElem?_eq_some_iff.1 h3).1).trans h3, h4⟩
theorem own_setG {base k i n : Nat} {e : TypeId} {size : Nat} {v u : Value} {xs : List Value} {w : World} (h : w.ownsRow base e size v n xs) (hk : some k ≠ v.ownBlock) : (w.setCell ⟨k, i, none⟩ u).ownsRow base e size v n xs := by
  refine ⟨h.1, h.2.imp id ?_⟩
  rintro ⟨g, cap, cur, h1, h2, h3, h4⟩
  refine ⟨g, cap, cur, h1, h2, (heap_setCell_other w _ g u (fun e => hk ?_)).trans h3, h4⟩
  rw [h1]; exact congrArg some e.symm
theorem NI.keep {w0 w w' : World} {base g n c i : Nat} {A : Option Addr} {V : Value} {R : Nat → Nat} (h : NI w0 base g A n c i V R w) (hb : Below w.heap.size w w') : NI w0 base g A n c i V R w' :=
  ⟨h.box.below hb h.box.lt, own_belowG h.row hb, fun j hj => (h.bits j hj).below hb (h.bits j hj).lt, h.ge, h.inj, bt h.below hb⟩
theorem NI.set {w0 w : World} {base g n c i : Nat} {A : Option Addr} {V : Value} {R : Nat → Nat} (h : NI w0 base g A n c i V R w) {q o m : Nat} {f : Nat → Bool} {u : Value} (hq : BB w q m f) (hn : ∀ j, j < i → R j ≠ q) (h0 : w0.heap.size ≤ q) : NI w0 base g A n c i V R (w.setCell ⟨q, o, none⟩ u) := by
  have hg : g ≠ q := fun e => by
    subst e
    have h2 := h.box.symm.trans hq
    simp only [Option.some.injEq, Obj.cells.injEq] at h2
    exact absurd h2.2.1 (by decide)
  exact ⟨h.box.far (p := ⟨q, o, none⟩) hg u, own_setG h.row (bb_ne_own h.row hq), fun j hj => (h.bits j hj).far (p := ⟨q, o, none⟩) (hn j hj) u, h.ge, h.inj, h.below.setCell (p := ⟨q, o, none⟩) h0 u⟩
/-- a row more -/
theorem NI.more {w0 w w4 : World} {g n c i q : Nat} {A : Option Addr} {V V' : Value} {R : Nat → Nat} (h : NI w0 (g + 1) g A n c i V R w) (hq : BB w q n (fun b => decide (i = b))) (hn : ∀ j, j < i → R j ≠ q) (hgq : g + 1 ≤ q) (hg0 : w0.heap.size ≤ g)
    (ho : w4.ownsRow (g + 1) 77 1 V' (i + 1) (rv n R i ++ [.slice (some ⟨q, 0, none⟩) n n])) (hgr : w.grownBy w4 V.ownBlock) : NI w0 (g + 1) g A n c (i + 1) V' (fun j => if j = i then q else R j) (w4.setCell ⟨g, 1, none⟩ V') := by
  have e1 : ∀ j, j < i → R j = (fun j => if j = i then q else R j) j := fun j hj => by show R j = if j = i then q else R j; rw [if_neg (by omega)]
  have hgV : some g ≠ V.ownBlock := fun e => by have := (h.row.lt g e.symm).1; omega
  have hgx : Gx w4 g A n c V := h.box.grown hgr hgV
  have hgV' : some g ≠ V'.ownBlock := fun e => by have := (ho.lt g e.symm).1; omega
  refine ⟨hgx.set_ V', ?_, fun j hj => ?_, fun j hj => ?_, fun j k hj hk e => ?_, ?_⟩
  · have : rv n (fun j => if j = i then q else R j) (i + 1) = rv n R i ++ [.slice (some ⟨q, 0, none⟩) n n] := by
      rw [rv_succ, ← rv_congr e1]; simp
    rw [this]
    exact own_setG ho hgV'
  · by_cases ej : j = i
    · subst ej
      show BB _ (if j = j then q else R j) n _
      rw [if_pos rfl]
      exact (hq.grown hgr (bb_ne_own h.row hq)).far (p := ⟨g, 1, none⟩) (by show q ≠ g; omega) _
    · show BB _ (if j = i then q else R j) n _
      rw [if_neg ej]
      have hb := h.bits j (by omega)
      have := h.ge j (by omega)
      exact (hb.grown hgr (bb_ne_own h.row hb)).far (p := ⟨g, 1, none⟩) (by show R j ≠ g; omega) _
  · show g + 1 ≤ if j = i then q else R j
    by_cases ej : j = i
    · rw [if_pos ej]; exact hgq
    · rw [if_neg ej]; exact h.ge j (by omega)
  · have e' : (if j = i then q else R j) = if k = i then q else R k := e
    by_cases ej : j = i
    · by_cases ek : k = i
      · omega
      · rw [if_pos ej, if_neg ek] at e'; exact absurd e'.symm (hn k (by omega))
    · by_cases ek : k = i
      · rw [if_neg ej, if_pos ek] at e'; exact absurd e' (hn j (by omega))
      · rw [if_neg ej, if_neg ek] at e'; exact h.inj j k (by omega) (by omega) e'
  · exact (h.below.grown hgr h.below.size (fun b hb => by have := (h.row.lt b hb).1; omega)).setCell (p := ⟨g, 1, none⟩) hg0 _
theorem rnew_no {A : Option Addr} {l : List ByteArray} {ps : List (ByteArray × ByteArray)} {w w' : World} {k : Nat} (h : newE l ps = k) (hk : k ≠ 0) (hb : Below w.heap.size w w') : RNewPost A l ps w (.returned (.tuple #[.pointer none, .int .i64 (k : Int)])) w' := .inl ⟨by rw [h]; exact hk, by rw [h], hb⟩
theorem newE_lat {l : List ByteArray} {ps : List (ByteArray × ByteArray)} {V : Nat → Nat → Bool} (h1 : errN l = 0) (h2 : ps.all (okP l) = true) (hV : ∀ x y, x < l.length → y < l.length → V x y = (uOf l ps x).testBit y) : newE l ps = if latB l.length V = true then 0 else 9 := by
  unfold newE
  rw [if_neg (by rw [h1]; simp), if_neg (by rw [h2]; simp)]
  obtain ⟨f1, f2, f3, f4⟩ := rel_ok l ps (List.all_eq_true.1 h2)
  rw [lat_same (ord_clo f1 f2 f3 f4) hV]
  rfl
set_option maxRecDepth 100000 in
set_option maxHeartbeats 1500000 in
theorem rnew_any (A : Option Addr) (c : Nat) (l : List ByteArray) (B : Option Addr) (d : Nat) (ps : List (ByteArray × ByteArray)) (w : World) (hl : l.length ≤ maxLen) (hs : ∀ s ∈ l, s.size ≤ 281474976710656) (hA : Strs w A l) (hps : ps.length ≤ maxLen) (hB : Prs w B ps) :
    Calls Try.prog 11 #[.slice A l.length c, .slice B ps.length d] w (RNewPost A l ps w) := by
  unfold maxLen at hps
  have HC := Lib.hid (rnamed_any A c l w hl hs hA)
  have HA := Lib.hid hA
  have HB := Lib.hid hB
  clear hA hB hs
  by_cases he : errN l = 0
  · have h16 := errN_zero he
    rw [he] at HC
    obtain ⟨n, hn⟩ : ∃ n, n = l.length := ⟨_, rfl⟩
    have HN := Lib.hid hn
    have hn0 : 0 < n := by rw [hn]; exact h16.1
    have hn16 : n ≤ 16 := by rw [hn]; exact h16.2.1
    have HE := Lib.hid he
    rw [← hn] at HC ⊢
    clear hn h16 he hl
    obtain ⟨m, hm⟩ : ∃ m, m = ps.length := ⟨_, rfl⟩
    have HM := Lib.hid hm
    rw [← hm] at hps ⊢
    clear hm
    obtain ⟨j0, ji, jz0, jz1, jz2⟩ := info_parts info77
    have e0 : ∀ (w' : World) (o : Obj), (w'.alloc o).heap.size = w'.heap.size + 1 := fun w' o => World.size_alloc w' o
    go_enter Try.func11, Try.ntmps11
    go_wp2_with (go_at_call 41; refine HC.out.mono ?_)
    rintro e w1 ⟨rfl, nq, rfl⟩
    have hb1 : Below w.heap.size w (w.drewN nq) := below_drewN (Below.refl _ _) nq
    generalize w.drewN nq = w1 at *
    clear HC
    obtain ⟨w2, hw2⟩ : ∃ w2, w1.alloc (.cells #[.slice A n c, .slice none 0 0] 76) = w2 := ⟨_, rfl⟩
    have hG : Gx w2 w1.heap.size A n c (.slice none 0 0) := by rw [← hw2]; exact alloc_new _ _
    have hb2 : Below w.heap.size w w2 := by rw [← hw2]; exact hb1.alloc hb1.size _
    have hg0 : w.heap.size ≤ w1.heap.size := hb1.size
    go_wp2
    clear hw2 hb1
    obtain ⟨g, hg⟩ : ∃ g, g = w1.heap.size := ⟨_, rfl⟩
    rw [← hg] at hG hg0 ⊢
    clear hg
    go_loopw [8] (fun i wr => ∃ (k : Nat) (V : Value) (R : Nat → Nat), k ≤ n ∧ i = .int .i64 (k : Int) ∧ NI w (g + 1) g A n c k V R wr) (fun i _ => n - (intOf i).toNat)
    case atStart => exact ⟨0, .slice none 0 0, fun _ => 0, Nat.zero_le _, rfl, hG, World.ownsRow_nil _ _ _ _, fun _ h => absurd h (Nat.not_lt_zero _), fun _ h => absurd h (Nat.not_lt_zero _), fun _ _ h => absurd h (Nat.not_lt_zero _), hb2⟩
    case round =>
      clear hG hb2
      obtain ⟨k, V, R, hk, rfl, hI⟩ := hrel
      by_cases hlt : k < n
      · have hlz : (k : Int) < (n : Int) := by omega
        have hmk := fun w' => make77 n (by omega) w'
        obtain ⟨V1, hV1⟩ : ∃ V1, wr.alloc (.cells (mkB n (fun _ => false)) 4) = V1 := ⟨_, rfl⟩
        have hgw := hI.box.lt
        have hB0 : BB V1 wr.heap.size n (fun _ => false) := by rw [← hV1]; exact alloc_new _ _
        have hbV : Below wr.heap.size wr V1 := by rw [← hV1]; exact heap1 _ _
        have c0 := hB0.cell hlt
        have f0 := hB0.frozen k
        have c1 := (hI.box.below hbV hI.box.lt).c1
        have hne : g ≠ wr.heap.size := by omega
        have f1 := (hI.box.below hbV hI.box.lt).frozen 1
        have HI := Lib.hid hI
        have HB0 := Lib.hid (And.intro hB0 hbV)
        clear hI hB0 hbV
        go_upto_region 10 with (fail)
        obtain ⟨hB0, hbV⟩ := HB0.out
        have hnR : ∀ j, j < k → R j ≠ wr.heap.size := fun j hj e => by have := (HI.out.bits j hj).lt; omega
        have hB2 : BB (V1.setCell ⟨wr.heap.size, k, none⟩ (.bool true)) wr.heap.size n (fun b => decide (k = b)) := (hB0.set_ k true).congr (fun i hi => by
          by_cases e : i = k
          · subst e; simp
          · have e' : ¬ k = i := fun h => e h.symm
            simp [e, e'])
        have hI2 := (HI.out.keep hbV).set (o := k) (u := .bool true) hB0 hnR (by have := HI.out.below.size; omega)
        obtain ⟨V2, hV2⟩ : ∃ V2, V1.setCell ⟨wr.heap.size, k, none⟩ (.bool true) = V2 := ⟨_, rfl⟩
        obtain ⟨q, hq⟩ : ∃ q, q = wr.heap.size := ⟨_, rfl⟩
        rw [← hq] at hB2 hI2 hnR hV2 hne hgw
        rw [← hq]
        rw [hV2] at hB2 hI2
        rw [hV2]
        clear hV2 hq hmk hV1 c0 f0 c1 f1 HI HB0 hB0 hbV
        have c1 := hI2.box.c1
        have hgq : g + 1 ≤ q := hgw
        have hz2 := hI2.box.lt
        have hne1 : g ≠ V2.heap.size := by omega
        have HX := Lib.hid (hI2.keep (heap1 V2 (.cells #[.slice (some ⟨q, 0, none⟩) n n] 77)))
        have HQ := Lib.hid (hB2.below (heap1 V2 (.cells #[.slice (some ⟨q, 0, none⟩) n n] 77)) hB2.lt)
        have HB2 := Lib.hid hB2
        clear hI2 hB2
        go_wp2_with (first
          | (at_builtin; refine wpList_append_own _ rfl _ _ 74 rfl (g + 1) 77 j0 (.slice none 0 0) 1 24 Try.underlying74 ji jz0 jz1 jz2 rfl (by decide) _ _ _ rfl HX.out.row ⟨V2.heap.size, 0, none⟩ 1 1 [.slice (some ⟨q, 0, none⟩) n n] rfl rfl ?c1 ?c2 ?c3 ?c4 ?c5 ?_))
        case c1 =>
          intro j v hj
          match j, hj with
          | 0, hj => simp at hj; subst hj; simp [Addr.add]
        case c2 => intro v hv; simp at hv; subst hv; rfl
        case c3 => unfold maxLen; omega
        case c4 => omega
        case c5 => rw [e0]; omega
        intro v' w4 hown4 hgrow4 _
        obtain ⟨rb', cap', rfl, _, _, _⟩ := own_cell1 hown4 (Nat.succ_pos k)
        have HI4 := Lib.hid (HX.out.more HQ.out hnR hgq hg0 hown4 hgrow4)
        have hgV : some g ≠ V.ownBlock := fun e => by have := (HX.out.row.lt g e.symm).1; omega
        have hgx : Gx w4 g A n c V := HX.out.box.grown hgrow4 hgV
        have c1 := hgx.c1
        have f1 := hgx.frozen 1
        clear hown4 hgrow4 HX HQ HB2 hgx
        go_wp2
        go_roundw
        case rel => exact ⟨k + 1, _, _, by omega, by go_num, HI4.out⟩
        case measure => simp [intOf]; omega
      · obtain rfl : n = k := by omega
        have hlz : ¬ (n : Int) < (n : Int) := by omega
        obtain ⟨rb, cap, rfl, hrb, hrl, hrc⟩ := own_cell1 hI.row hn0
        have hX : RLx wr g l A c rb cap R (tabU l (ps.take 0)) := by
          refine ⟨?_, HA.out.below hI.below, ?_, fun i hi => ?_, fun i hi => ?_, fun i j hi hj => ?_⟩
          · rw [← HN.out]; exact hI.box.c0
          · rw [← HN.out]; exact hI.box.c1
          · rw [← HN.out] at hi ⊢
            rw [hrc i hi]; unfold rv; simp [hi]
          · rw [← HN.out] at hi ⊢; exact hI.bits i hi
          · rw [← HN.out] at hi hj; exact hI.inj i j hi hj
        have HX := Lib.hid (And.intro hX hI.below)
        have HGE := Lib.hid (show ∀ i, i < l.length → w.heap.size ≤ R i from fun i hi => by
          have := hI.ge i (by rw [HN.out]; exact hi); omega)
        have hrw : w.heap.size ≤ rb := by omega
        clear hI hX hrc hrb hrl
        go_wp2
        go_loopw [10] (fun i wz => ∃ j : Nat, j ≤ m ∧ i = .int .i64 (j : Int) ∧ (ps.take j).all (okP l) = true ∧ RLx wz g l A c rb cap R (tabU l (ps.take j)) ∧ Below w.heap.size w wz) (fun i _ => m - (intOf i).toNat)
        case atStart => exact ⟨0, Nat.zero_le _, rfl, rfl, HX.out.1, HX.out.2⟩
        case round =>
          clear HX
          obtain ⟨j, hj, rfl, hall, hX, hbz⟩ := hrel
          have HAL := Lib.hid hall
          clear hall
          by_cases hjm : j < m
          · have hjz : (j : Int) < (m : Int) := by omega
            have hjl : j < ps.length := by rw [← HM.out]; exact hjm
            obtain ⟨bB, oB, rfl, hbB, hcB⟩ := (HB.out.below hbz) (by omega)
            obtain ⟨s1, s2⟩ := hcB j hjl
            have HTK := Lib.hid (show ps.take (j + 1) = ps.take j ++ [ps[j]] from List.take_succ_eq_append_getElem hjl)
            have HTB := Lib.hid (tabU_take l ps j hjl)
            have HMEM := Lib.hid (List.getElem_mem hjl)
            clear hcB
            generalize ps[j] = pp at *
            obtain ⟨p1, p2⟩ := pp
            dsimp only at s1 s2 HTB
            have HP := Lib.hid (fun s => rplace_any g l _ s wr (by rw [← HN.out]; omega) hX.lat)
            have HX := Lib.hid (And.intro hX hbz)
            have hu := hX.under
            rw [← HN.out] at hu
            have hrow := fun i hi => hX.rows i hi
            have hbit := fun i hi => hX.bits i hi
            have HRW := Lib.hid (And.intro hrow hbit)
            clear hX hbz hrow hbit
            by_cases g1 : 0 ≤ idxO l p1
            · obtain ⟨a, ha⟩ : ∃ a : Nat, idxO l p1 = a := ⟨(idxO l p1).toNat, by omega⟩
              have hal : a < n := by
                rcases idxO_spec l p1 with ⟨h1, _⟩ | ⟨i, hi, h1, _⟩
                · omega
                · rw [HN.out]; omega
              by_cases g2 : 0 ≤ idxO l p2
              · obtain ⟨b, hb⟩ : ∃ b : Nat, idxO l p2 = b := ⟨(idxO l p2).toNat, by omega⟩
                have hbl : b < n := by
                  rcases idxO_spec l p2 with ⟨h1, _⟩ | ⟨i, hi, h1, _⟩
                  · omega
                  · rw [HN.out]; omega
                have HK := Lib.hid (show okP l (p1, p2) = true by unfold okP; simp [g1, g2])
                have HPA := Lib.hid (HP.out p1)
                have HPB := Lib.hid (HP.out p2)
                rw [ha] at HPA
                rw [hb] at HPB
                have HAB := Lib.hid (And.intro ha hb)
                clear ha hb g1 g2 HP
                have r1 := HRW.out.1 a (by rw [← HN.out]; exact hal)
                rw [← HN.out] at r1
                have b1 := (HRW.out.2 a (by rw [← HN.out]; exact hal)).cell (i := b) (by rw [← HN.out]; exact hbl)
                have f1 := (HRW.out.2 a (by rw [← HN.out]; exact hal)).frozen b
                generalize tabU l (ps.take j) a b = tv at *
                go_wp2_with (go_at_call 24; refine HPA.out.mono ?_)
                rintro e w3 ⟨rfl, rfl⟩
                go_wp2_with (go_at_call 24; refine HPB.out.mono ?_; rintro e w3 ⟨rfl, rfl⟩)
                go_roundw
                case rel =>
                  refine ⟨j + 1, by omega, by go_num, ?_, ?_, HX.out.2.setCell (p := ⟨R a, b, none⟩) (HGE.out a (by rw [← HN.out]; exact hal)) _⟩
                  · rw [HTK.out, List.all_append, HAL.out]; simp [HK.out]
                  · rw [HTB.out, HAB.out.1, HAB.out.2]
                    exact HX.out.1.put (by rw [← HN.out]; exact hal) (by rw [← HN.out]; exact hbl)
                case measure => simp [intOf]; omega
              · have HBAD := Lib.hid (show newE l ps = 3 by
                  unfold newE
                  rw [if_neg (by rw [HE.out]; simp), if_pos]
                  rw [List.all_eq_false]
                  exact ⟨(p1, p2), HMEM.out, by unfold okP; simp; omega⟩)
                have hneg : decide (idxO l p2 < 0) = true := decide_eq_true (by omega)
                have hpos : decide (idxO l p1 < 0) = false := decide_eq_false (by omega)
                clear ha g1 g2 HRW hu hal
                go_wp2_with (go_at_call 24; refine (HP.out _).mono ?_; rintro e w3 ⟨rfl, rfl⟩)
                go_ret2
                exact rnew_no (k := 3) HBAD.out (by decide) HX.out.2
            · have HBAD := Lib.hid (show newE l ps = 3 by
                unfold newE
                rw [if_neg (by rw [HE.out]; simp), if_pos]
                rw [List.all_eq_false]
                exact ⟨(p1, p2), HMEM.out, by unfold okP; simp; omega⟩)
              have hneg : decide (idxO l p1 < 0) = true := decide_eq_true (by omega)
              clear g1 HRW hu
              go_wp2_with (go_at_call 24; refine (HP.out _).mono ?_; rintro e w3 ⟨rfl, rfl⟩)
              go_ret2
              exact rnew_no (k := 3) HBAD.out (by decide) HX.out.2
          · obtain rfl : m = j := by omega
            have hjz : ¬ (m : Int) < (m : Int) := by omega
            rw [List.take_of_length_le (by rw [← HM.out]; exact Nat.le_refl _)] at hX HAL
            have HCL := Lib.hid (rclose_any g l A c rb cap R (tabU l ps) w.heap.size wr hX (by rw [← HN.out]; omega) HGE.out)
            have HBZ := Lib.hid hbz
            clear hX hbz
            go_wp2_with (go_at_call 42; refine HCL.out.mono ?_)
            rintro e w5 rfl V5 hV hX5 hb5
            have hV2 : ∀ x y, x < l.length → y < l.length → V5 x y = (uOf l ps x).testBit y := clo_same (fun a b _ _ => tab_rel l ps a b) hV
            have HNE := Lib.hid (newE_lat HE.out HAL.out hV2)
            have HLT := Lib.hid (rlattice_any g l V5 w5 (by rw [← HN.out]; omega) hX5.lat)
            have HFIN := Lib.hid (And.intro (HBZ.out.trans hb5) (And.intro (show RLo w.heap.size A w5 g l V5 from ⟨c, rb, cap, R, hX5, hg0, hrw, HGE.out⟩) hV2))
            clear hV hV2 hX5 hb5 HBZ HCL
            cases hlat : latB l.length V5 with
            | true =>
              rw [hlat] at HLT HNE
              clear hlat
              go_wp2_with (go_at_call 43; refine HLT.out.mono ?_; rintro e w6 ⟨rfl, rfl⟩)
              go_ret2
              exact .inr ⟨HNE.out, g, V5, rfl, HFIN.out.1, HFIN.out.2.1, HFIN.out.2.2⟩
            | false =>
              rw [hlat] at HLT HNE
              clear hlat
              go_wp2_with (go_at_call 43; refine HLT.out.mono ?_; rintro e w6 ⟨rfl, rfl⟩)
              go_ret2
              exact rnew_no (k := 9) HNE.out (by decide) HFIN.out.1
  · have HNE := Lib.hid (show newE l ps = errN l by unfold newE; rw [if_pos he])
    have HEE := Lib.hid he
    have q1 : ((errN l : Int) != 0) = true := by rw [bne_iff_ne]; omega
    generalize errN l = en at *
    clear he
    go_enter Try.func11, Try.ntmps11
    go_wp2_with (go_at_call 41; refine HC.out.mono ?_; rintro e w1 ⟨rfl, nq, rfl⟩)
    go_ret2
    exact rnew_no HNE.out HEE.out (below_drewN (Below.refl _ _) nq)
end Go.Proofs.Ytefnbjkmmmdagaa
