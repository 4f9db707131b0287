/- Arguments that are lists of ints, of intervals, or structs of these. -/
import Derived.Test.YtgnngldlgcdnfaaGreatDoorDgp
import Derived.Test.YtgnngldlgcdnfaaGreatDoorEli
import Derived.Test.YtgnngldlgcdnfaaGreatDoorLea
namespace Go.Proofs.YtgnngldlgcdnfaaGreatDoor
open Go.ChangeShapes Go.WideShapes Go.ChangeAt Go.RowKit

/-- A list of intervals in any form. -/
structure StsI (w : World) (A : Option Addr) (n : Nat) (R : Nat → RI) (F G : Nat → Nat → Nat) : Prop where
  rn : RnI w A n R
  hn : n ≤ maxLen
  r1 : ∀ i, i < n → Rd w (R i).lo.A (R i).lo.n (F i)
  o1 : ∀ i, i < n → SlOk (R i).lo.A (R i).lo.n (R i).lo.c
  b1 : ∀ i, i < n → ∀ j, j < (R i).lo.n → F i j < 4294967296
  r2 : ∀ i, i < n → Rd w (R i).hi.A (R i).hi.n (G i)
  o2 : ∀ i, i < n → SlOk (R i).hi.A (R i).hi.n (R i).hi.c
  b2 : ∀ i, i < n → ∀ j, j < (R i).hi.n → G i j < 4294967296
theorem StsI.ext {w w' : World} {A : Option Addr} {n : Nat} {R : Nat → RI} {F G : Nat → Nat → Nat} (h : StsI w A n R F G) (e : Ext w w') : StsI w' A n R F G :=
  ⟨h.rn.ext e, h.hn, fun i hi => (h.r1 i hi).ext e, h.o1, h.b1, fun i hi => (h.r2 i hi).ext e, h.o2, h.b2⟩
def ivS (R : Nat → RI) (F G : Nat → Nat → Nat) (i : Nat) : IV := ⟨nrA (R i).lo.neg (R i).lo.n (F i) (R i).lo.den, nrA (R i).hi.neg (R i).hi.n (G i) (R i).hi.den⟩
def ivO (R : Nat → RI) (F G : Nat → Nat → Nat) (i : Nat) : Bool := ivB (R i).lo.neg (R i).lo.n (F i) (R i).lo.den (R i).hi.neg (R i).hi.n (G i) (R i).hi.den
/-- The struct counts as the interval x, for the code and for the reference. -/
structure ElR (w : World) (r : RI) (x : IV) (b : Bool) : Prop extends ElI w r x b where
  rv : ∀ w', Ext w w' → Calls Tryz.prog 61 #[r.v] w' fun e w'' => e = .returned (.bool b) ∧ Ext w' w''
theorem ElR.ext {w w' : World} {r : RI} {x : IV} {b : Bool} (h : ElR w r x b) (e : Ext w w') : ElR w' r x b := ⟨h.toElI.ext e, fun w'' e' => h.rv w'' (e.trans e')⟩
theorem elr_any {w : World} {r : RI} {f g : Nat → Nat} (r1 : Rd w r.lo.A r.lo.n f) (o1 : SlOk r.lo.A r.lo.n r.lo.c) (b1 : ∀ j, j < r.lo.n → f j < 4294967296) (k1 : r.lo.n ≤ 1048576)
    (r2 : Rd w r.hi.A r.hi.n g) (o2 : SlOk r.hi.A r.hi.n r.hi.c) (b2 : ∀ j, j < r.hi.n → g j < 4294967296) (k2 : r.hi.n ≤ 1048576) :
    ElR w r ⟨nrA r.lo.neg r.lo.n f r.lo.den, nrA r.hi.neg r.hi.n g r.hi.den⟩ (ivB r.lo.neg r.lo.n f r.lo.den r.hi.neg r.hi.n g r.hi.den) := by
  refine ⟨⟨fun w' e => ivalid_any r1 o1 b1 (by omega) r2 o2 b2 (by omega) w' e, fun h => ?_⟩, fun w' e => rivalid_any r1 o1 b1 k1 r2 o2 b2 k2 w' e⟩
  unfold ivB at h
  rw [Bool.and_eq_true, Bool.and_eq_true, decide_eq_true_eq] at h
  obtain ⟨h1, h2, h3⟩ := h
  have da : Dy w r.lo.neg r.lo.A r.lo.n r.lo.c r.lo.den _ _ _ := Dy.any r1 o1 b1 (by omega)
  have db : Dy w r.hi.neg r.hi.A r.hi.n r.hi.c r.hi.den _ _ _ := Dy.any r2 o2 b2 (by omega)
  have ra' := da.rd; have sa' := da.sl; have rb' := db.rd; have sb' := db.sl
  rw [if_pos h1] at ra' sa'
  rw [if_pos h1] at sa'
  rw [if_pos h2] at rb' sb'
  rw [if_pos h2] at sb'
  obtain ⟨p1, p2, p3⟩ := nrA_t b1 h1
  obtain ⟨q1, q2, q3⟩ := nrA_t b2 h2
  have l1 := nrA_len (neg := r.lo.neg) (den := r.lo.den) b1 k1
  have l2 := nrA_len (neg := r.hi.neg) (den := r.hi.den) b2 k2
  exact ⟨⟨by unfold cnR; rw [p1, p2, p3], ra', sa', da.wf, Nat.le_trans l1 (by decide)⟩, ⟨by unfold cnR; rw [q1, q2, q3], rb', sb', db.wf, Nat.le_trans l2 (by decide)⟩, l1, l2, (cmp_le da.wf db.wf).1 h3⟩
theorem lea_t {n : Nat} {R : Nat → RI} (h : leI n R = true) : n ≤ 100 ∧ ∀ i, i < n → (R i).lo.n ≤ 140 ∧ (R i).hi.n ≤ 140 := by
  unfold leI at h
  rw [Bool.and_eq_true, decide_eq_true_eq] at h
  refine ⟨h.2, fun i hi => ?_⟩
  have := allN_iff.1 h.1 i hi
  unfold leK at this
  simp only [Bool.and_eq_true, decide_eq_true_eq] at this
  omega
theorem StsI.el {w : World} {A : Option Addr} {n : Nat} {R : Nat → RI} {F G : Nat → Nat → Nat} (h : StsI w A n R F G) (hl : leI n R = true) : n ≤ 100 ∧ ∀ i, i < n → ElR w (R i) (ivS R F G i) (ivO R F G i) := by
  obtain ⟨h1, h2⟩ := lea_t hl
  exact ⟨h1, fun i hi => elr_any (h.r1 i hi) (h.o1 i hi) (h.b1 i hi) (by have := (h2 i hi).1; omega) (h.r2 i hi) (h.o2 i hi) (h.b2 i hi) (by have := (h2 i hi).2; omega)⟩

section
variable {H : Type} {enc : TypeId × Value → H} {w : World} {base : Nat} {held : Bool}
set_option maxRecDepth 100000 in
theorem dy_cells {m : Nat} {cs : List Value} {y : DataW H × List MemPlace} (h : DataW.trod enc Tryz.prog w base (fun _ => true) held m 56 cs = some y) :
    ∃ (neg : Bool) (A : Option Addr) (n c : Nat) (den : Int) (f : Nat → Nat), cs = [.bool neg, .slice A n c, I den] ∧ Rd w A n f ∧ SlOk A n c ∧ (∀ i, i < n → f i < 4294967296) := by
  obtain ⟨xs, n0, _, _, hl, hlen, hf⟩ := DataW.trod_struct Tryz.underlying56 h
  have h3 : cs.length = 3 := by rw [hl]; kernel_rfl
  match xs, hlen with
  | [y0, y1, y2], _ =>
    match cs, h3 with
    | [c0, c1, c2], _ =>
      have k0 : Tryz.prog.cellsOf 4 = 1 := by kernel_rfl
      have k1 : Tryz.prog.cellsOf 54 = 1 := by kernel_rfl
      have k2 : Tryz.prog.cellsOf 3 = 1 := by kernel_rfl
      have e0 : DataW.trod enc Tryz.prog w base (fun _ => true) held n0 4 (([c0, c1, c2].drop 0).take (Tryz.prog.cellsOf 4)) = some y0 := hf 0 _ rfl
      have e1 : DataW.trod enc Tryz.prog w base (fun _ => true) held n0 54 (([c0, c1, c2].drop 1).take (Tryz.prog.cellsOf 54)) = some y1 := hf 1 _ rfl
      have e2 : DataW.trod enc Tryz.prog w base (fun _ => true) held n0 3 (([c0, c1, c2].drop 2).take (Tryz.prog.cellsOf 3)) = some y2 := hf 2 _ rfl
      rw [k0] at e0
      rw [k1] at e1
      rw [k2] at e2
      obtain ⟨neg, h0, _⟩ := DataW.trod_bool Tryz.underlying4 e0
      obtain ⟨A, n, c, f, h1, ok, rd, hb⟩ := word_slice Tryz.underlying54 Tryz.underlying123 (by kernel_rfl) e1
      obtain ⟨den, h2, _, _⟩ := DataW.trod_int Tryz.underlying3 e2
      cases h0; cases h1; cases h2
      exact ⟨neg, A, n, c, den, f, rfl, rd, ok, hb⟩
set_option maxRecDepth 100000 in
theorem open_ints' {w' : World} {b0 : Nat} {v : Value} {d : DataW H} {p : List MemPlace}
    (hv : Value.okWide Tryz.prog w' .any b0 24 v) (h : DataW.Trod enc Tryz.prog w base (fun _ => true) held 24 v d p) :
    ∃ (A : Option Addr) (n c : Nat) (X : Nat → Int), v = .slice A n c ∧ Ri w A n X ∧ n ≤ maxLen ∧ ∀ i, i < n → in64 (X i) := by
  obtain ⟨a, L, cap, rfl⟩ := okWide_slice Tryz.underlying24 hv
  obtain ⟨fuel, h1⟩ := h
  obtain ⟨A, n, c, X, e1, hn, r, _, hw⟩ := ri_slice h1
  have e2 : [Value.slice a L cap] = [Value.slice A n c] := by simpa [Value.cells] using e1
  simp only [List.cons.injEq, and_true, Value.slice.injEq] at e2
  obtain ⟨rfl, rfl, rfl⟩ := e2
  exact ⟨_, _, _, X, rfl, r, hn, hw⟩
set_option maxRecDepth 100000 in
theorem itv_cells {m : Nat} {cs : List Value} {y : DataW H × List MemPlace} (h : DataW.trod enc Tryz.prog w base (fun _ => true) held m 58 cs = some y) :
    ∃ (r : RI) (f g : Nat → Nat), cs = [.bool r.lo.neg, .slice r.lo.A r.lo.n r.lo.c, I r.lo.den, .bool r.hi.neg, .slice r.hi.A r.hi.n r.hi.c, I r.hi.den] ∧ (Rd w r.lo.A r.lo.n f ∧ SlOk r.lo.A r.lo.n r.lo.c ∧ ∀ i, i < r.lo.n → f i < 4294967296) ∧
      Rd w r.hi.A r.hi.n g ∧ SlOk r.hi.A r.hi.n r.hi.c ∧ ∀ i, i < r.hi.n → g i < 4294967296 := by
  obtain ⟨xs, n0, _, _, hl, hlen, hf⟩ := DataW.trod_struct Tryz.underlying58 h
  have h6 : cs.length = 6 := by rw [hl]; kernel_rfl
  match xs, hlen with
  | [y0, y1], _ =>
    match cs, h6 with
    | [c0, c1, c2, c3, c4, c5], _ =>
      have k0 : Tryz.prog.cellsOf 56 = 3 := by kernel_rfl
      have e0 : DataW.trod enc Tryz.prog w base (fun _ => true) held n0 56 (([c0, c1, c2, c3, c4, c5].drop 0).take (Tryz.prog.cellsOf 56)) = some y0 := hf 0 _ rfl
      have e1 : DataW.trod enc Tryz.prog w base (fun _ => true) held n0 56 (([c0, c1, c2, c3, c4, c5].drop 3).take (Tryz.prog.cellsOf 56)) = some y1 := hf 1 _ rfl
      rw [k0] at e0 e1
      obtain ⟨neg, A, n, c, den, f, h0, rd, ok, hb⟩ := dy_cells e0
      obtain ⟨neg', A', n', c', den', f', h1, rd', ok', hb'⟩ := dy_cells e1
      cases h0; cases h1
      exact ⟨⟨⟨neg, A, n, c, den⟩, ⟨neg', A', n', c', den'⟩⟩, f, f', rfl, ⟨rd, ok, hb⟩, rd', ok', hb'⟩
theorem ivs_slice {fuel : Nat} {cs : List Value} {x : DataW H × List MemPlace} (h1 : DataW.trod enc Tryz.prog w base (fun _ => true) held fuel 27 cs = some x) :
    ∃ (A : Option Addr) (n c : Nat) (R : Nat → RI) (F G : Nat → Nat → Nat), cs = [.slice A n c] ∧ StsI w A n R F G := by
  obtain ⟨A, L, c, e1, hn, _, hx⟩ := rows_slice Tryz.underlying27 (k := 6) (by kernel_rfl) (by omega) h1
  subst e1
  rcases Nat.eq_zero_or_pos L with h0 | h0
  · exact ⟨_, _, _, fun _ => RI.z, fun _ _ => 0, fun _ _ => 0, rfl, ⟨fun h => by omega, hn, fun i hi => by omega, fun i hi => by omega, fun i hi => by omega, fun i hi => by omega, fun i hi => by omega, fun i hi => by omega⟩⟩
  · obtain ⟨b, o, ea, hb, hr⟩ := hx h0
    have : ∀ i, ∃ q : RI × (Nat → Nat) × (Nat → Nat), i < L → (w.cell? ⟨b, o + i * 6, none⟩ = some (.bool q.1.lo.neg) ∧ w.cell? ⟨b, o + i * 6 + 1, none⟩ = some (.slice q.1.lo.A q.1.lo.n q.1.lo.c) ∧ w.cell? ⟨b, o + i * 6 + 2, none⟩ = some (I q.1.lo.den) ∧
        w.cell? ⟨b, o + i * 6 + 3, none⟩ = some (.bool q.1.hi.neg) ∧ w.cell? ⟨b, o + i * 6 + 4, none⟩ = some (.slice q.1.hi.A q.1.hi.n q.1.hi.c) ∧ w.cell? ⟨b, o + i * 6 + 5, none⟩ = some (I q.1.hi.den)) ∧
        (Rd w q.1.lo.A q.1.lo.n q.2.1 ∧ SlOk q.1.lo.A q.1.lo.n q.1.lo.c ∧ ∀ j, j < q.1.lo.n → q.2.1 j < 4294967296) ∧ Rd w q.1.hi.A q.1.hi.n q.2.2 ∧ SlOk q.1.hi.A q.1.hi.n q.1.hi.c ∧ ∀ j, j < q.1.hi.n → q.2.2 j < 4294967296 := fun i => by
      by_cases hi : i < L
      · obtain ⟨cs', y, m', hl', hc', ht'⟩ := hr i hi
        obtain ⟨r, f, g, rfl, h2, h3⟩ := itv_cells ht'
        exact ⟨(r, f, g), fun _ => ⟨⟨hc' 0 (by omega), hc' 1 (by omega), hc' 2 (by omega), hc' 3 (by omega), hc' 4 (by omega), hc' 5 (by omega)⟩, h2, h3⟩⟩
      · exact ⟨(RI.z, fun _ => 0, fun _ => 0), fun h => absurd h hi⟩
    exact ⟨_, _, _, fun i => (Classical.choose (this i)).1, fun i => (Classical.choose (this i)).2.1, fun i => (Classical.choose (this i)).2.2, rfl,
      ⟨fun _ => ⟨b, o, ea, hb, fun i hi => (Classical.choose_spec (this i) hi).1⟩, hn, fun i hi => (Classical.choose_spec (this i) hi).2.1.1, fun i hi => (Classical.choose_spec (this i) hi).2.1.2.1, fun i hi => (Classical.choose_spec (this i) hi).2.1.2.2,
        fun i hi => (Classical.choose_spec (this i) hi).2.2.1, fun i hi => (Classical.choose_spec (this i) hi).2.2.2.1, fun i hi => (Classical.choose_spec (this i) hi).2.2.2.2⟩⟩
set_option maxRecDepth 100000 in
theorem open_ivs {w' : World} {b0 : Nat} {v : Value} {d : DataW H} {p : List MemPlace}
    (hv : Value.okWide Tryz.prog w' .any b0 27 v) (h : DataW.Trod enc Tryz.prog w base (fun _ => true) held 27 v d p) :
    ∃ (A : Option Addr) (n c : Nat) (R : Nat → RI) (F G : Nat → Nat → Nat), v = .slice A n c ∧ StsI w A n R F G := by
  obtain ⟨a, L, cap, rfl⟩ := okWide_slice Tryz.underlying27 hv
  obtain ⟨fuel, h1⟩ := h
  obtain ⟨A, n, c, R, F, G, e1, st⟩ := ivs_slice h1
  have e2 : [Value.slice a L cap] = [Value.slice A n c] := by simpa [Value.cells] using e1
  simp only [List.cons.injEq, and_true, Value.slice.injEq] at e2
  obtain ⟨rfl, rfl, rfl⟩ := e2
  exact ⟨_, _, _, R, F, G, rfl, st⟩
set_option maxRecDepth 100000 in
theorem open_ranged {w' : World} {b0 : Nat} {v : Value} {d : DataW H} {p : List MemPlace}
    (hv : Value.okWide Tryz.prog w' .any b0 86 v) (h : DataW.Trod enc Tryz.prog w base (fun _ => true) held 86 v d p) :
    ∃ (A : Option Addr) (n c : Nat) (R : Nat → RI) (F G : Nat → Nat → Nat) (B : Option Addr) (m e : Nat) (X : Nat → Int), v = .agg #[.slice A n c, .slice B m e] ∧ StsI w A n R F G ∧ Ri w B m X ∧ m ≤ maxLen ∧ ∀ i, i < m → in64 (X i) := by
  obtain ⟨cs, rfl, _⟩ := okWide_struct Tryz.underlying86 hv
  obtain ⟨l⟩ := cs
  obtain ⟨fuel, hd⟩ := h
  have hd' : DataW.trod enc Tryz.prog w base (fun _ => true) held fuel 86 l = some (d, p) := hd
  obtain ⟨xs, m, _, _, hl, hlen, hf⟩ := DataW.trod_struct Tryz.underlying86 hd'
  have h3 : l.length = 2 := by rw [hl]; kernel_rfl
  match xs, hlen with
  | [y0, y1], _ =>
    match l, h3 with
    | [c0, c1], _ =>
      have k0 : Tryz.prog.cellsOf 27 = 1 := by kernel_rfl
      have k1 : Tryz.prog.cellsOf 24 = 1 := by kernel_rfl
      have e0 : DataW.trod enc Tryz.prog w base (fun _ => true) held m 27 (([c0, c1].drop 0).take (Tryz.prog.cellsOf 27)) = some y0 := hf 0 _ rfl
      have e1 : DataW.trod enc Tryz.prog w base (fun _ => true) held m 24 (([c0, c1].drop 1).take (Tryz.prog.cellsOf 24)) = some y1 := hf 1 _ rfl
      rw [k0] at e0
      rw [k1] at e1
      obtain ⟨A, n, c, R, F, G, g0, st⟩ := ivs_slice e0
      obtain ⟨B, m', e, X, g1, hn, r, ok, hw⟩ := ri_slice e1
      cases g0; cases g1
      exact ⟨A, n, c, R, F, G, B, m', e, X, rfl, st, r, hn, hw⟩
end
end Go.Proofs.YtgnngldlgcdnfaaGreatDoor
