/- Package ranges: intervals as values and in memory. -/
import Derived.Test.YtgnngldlgcdnfaaGreatDoorRnm
import Derived.Test.YtgnngldlgcdnfaaGreatDoorIvb
namespace Go.Proofs.YtgnngldlgcdnfaaGreatDoor
open Go Go.RowKit

structure RI where
  lo : RN
  hi : RN
abbrev RI.v (r : RI) : Value := iv r.lo.neg r.lo.A r.lo.n r.lo.c r.lo.den r.hi.neg r.hi.A r.hi.n r.hi.c r.hi.den
def RI.z : RI := ⟨RN.z, RN.z⟩
def ciR (x : IV) (A : Option Addr) (c : Nat) (B : Option Addr) (k : Nat) : RI := ⟨cnR x.lo A c, cnR x.hi B k⟩
/-- The struct is the interval x in its normal form. -/
structure CnI (w : World) (r : RI) (x : IV) : Prop where
  lo : Cn w r.lo x.lo
  hi : Cn w r.hi x.hi
  el : len x.lo.m ≤ 1048576
  eh : len x.hi.m ≤ 1048576
  le : x.lo.q ≤ x.hi.q
theorem CnI.ext {w w' : World} {r : RI} {x : IV} (h : CnI w r x) (e : Ext w w') : CnI w' r x := ⟨h.lo.ext e, h.hi.ext e, h.el, h.eh, h.le⟩
theorem CnI.iw {w : World} {r : RI} {x : IV} (h : CnI w r x) : Iw w r.lo.neg r.lo.A r.lo.n r.lo.c r.lo.den r.hi.neg r.hi.A r.hi.n r.hi.c r.hi.den x.lo x.hi r.lo.A r.lo.c r.hi.A r.hi.c := by
  have := iv_ok h.lo.rd h.lo.sl ⟨h.lo.ok, h.el⟩ h.hi.rd h.hi.sl ⟨h.hi.ok, h.eh⟩ h.le
  rw [h.lo.neg, h.lo.n, h.lo.den, h.hi.neg, h.hi.n, h.hi.den]; exact this
theorem CnI.z (w : World) : CnI w RI.z IV.z := ⟨Cn.z w, Cn.z w, by show len 0 ≤ _; rw [show len 0 = 0 from zero_len]; omega, by show len 0 ≤ _; rw [show len 0 = 0 from zero_len]; omega, Rat.le_refl⟩
/-- Its words, if there are any, lie in block base or behind it. -/
def NwI (base : Nat) (r : RI) (x : IV) : Prop := (0 < len x.lo.m → ∀ a, r.lo.A = some a → base ≤ a.block) ∧ (0 < len x.hi.m → ∀ a, r.hi.A = some a → base ≤ a.block)
theorem NwI.mono {b b' : Nat} {r : RI} {x : IV} (h : NwI b r x) (e : b' ≤ b) : NwI b' r x := ⟨fun q a ha => Nat.le_trans e (h.1 q a ha), fun q a ha => Nat.le_trans e (h.2 q a ha)⟩
/-- Its words do not lie in block g. -/
def FarI (g : Nat) (r : RI) (x : IV) : Prop := (0 < len x.lo.m → ∀ a, r.lo.A = some a → a.block ≠ g) ∧ (0 < len x.hi.m → ∀ a, r.hi.A = some a → a.block ≠ g)
theorem NwI.far {b g : Nat} {r : RI} {x : IV} (h : NwI b r x) (hg : g < b) : FarI g r x := ⟨fun q a ha e => by have := h.1 q a ha; omega, fun q a ha e => by have := h.2 q a ha; omega⟩
theorem CnI.lt {w : World} {r : RI} {x : IV} (h : CnI w r x) : (0 < len x.lo.m → ∀ a, r.lo.A = some a → a.block < w.heap.size) ∧ (0 < len x.hi.m → ∀ a, r.hi.A = some a → a.block < w.heap.size) := by
  have key : ∀ {r : RN} {d : DV}, Cn w r d → 0 < len d.m → ∀ a, r.A = some a → a.block < w.heap.size := fun c q a ha => by
    obtain ⟨b, o, e, hb, _⟩ := c.rd q
    rw [ha] at e; injection e with e; subst e; exact hb
  exact ⟨key h.lo, key h.hi⟩
theorem CnI.farNew {w : World} {r : RI} {x : IV} {g : Nat} (h : CnI w r x) (hg : w.heap.size ≤ g) : FarI g r x :=
  ⟨fun q a ha e => by have := h.lt.1 q a ha; omega, fun q a ha e => by have := h.lt.2 q a ha; omega⟩
theorem CnI.fr {w w' : World} {r : RI} {x : IV} {g : Nat} (h : CnI w r x) (e : w.grownBy w' (some g)) (hne : FarI g r x) : CnI w' r x := ⟨h.lo.fr e hne.1, h.hi.fr e hne.2, h.el, h.eh, h.le⟩
theorem IvRes.cn {a b : DV} {w : World} {e : Ending} {w' : World} (h : IvRes a b w e w') (ha : End a) (hb : End b) (hle : a.q ≤ b.q) :
    ∃ A c B k, e = .returned (ciR ⟨a, b⟩ A c B k).v ∧ CnI w' (ciR ⟨a, b⟩ A c B k) ⟨a, b⟩ ∧ NwI w.heap.size (ciR ⟨a, b⟩ A c B k) ⟨a, b⟩ ∧ Ext w w' := by
  obtain ⟨A, c, B, k, he, h1, h2, h3⟩ := h
  exact ⟨A, c, B, k, he, ⟨Cn.of h1.rd h1.ok ha.1 (Nat.le_trans ha.2 (by decide)), Cn.of h2.rd h2.ok hb.1 (Nat.le_trans hb.2 (by decide)), ha.2, hb.2, hle⟩, ⟨h1.2.2, h2.2.2⟩, h3⟩

theorem zA {a : Addr} (h : RI.z.lo.A = some a) : False := by cases h
theorem zB {a : Addr} (h : RI.z.hi.A = some a) : False := by cases h
theorem FarI.z (g : Nat) : FarI g RI.z IV.z := And.intro (fun _ _ h => (zA h).elim) (fun _ _ h => (zB h).elim)
theorem NwI.z (g : Nat) : NwI g RI.z IV.z := And.intro (fun _ _ h => (zA h).elim) (fun _ _ h => (zB h).elim)

/-! ### Lists of intervals that are read -/
def RnI (w : World) (A : Option Addr) (n : Nat) (R : Nat → RI) : Prop :=
  0 < n → ∃ b o, A = some ⟨b, o, none⟩ ∧ b < w.heap.size ∧ ∀ i, i < n → w.cell? ⟨b, o + i * 6, none⟩ = some (.bool (R i).lo.neg) ∧ w.cell? ⟨b, o + i * 6 + 1, none⟩ = some (.slice (R i).lo.A (R i).lo.n (R i).lo.c) ∧ w.cell? ⟨b, o + i * 6 + 2, none⟩ = some (I (R i).lo.den) ∧
    w.cell? ⟨b, o + i * 6 + 3, none⟩ = some (.bool (R i).hi.neg) ∧ w.cell? ⟨b, o + i * 6 + 4, none⟩ = some (.slice (R i).hi.A (R i).hi.n (R i).hi.c) ∧ w.cell? ⟨b, o + i * 6 + 5, none⟩ = some (I (R i).hi.den)
theorem RnI.none_ {w : World} {A : Option Addr} {R : Nat → RI} : RnI w A 0 R := fun h => absurd h (by omega)
theorem RnI.ext {w w' : World} {A : Option Addr} {n : Nat} {R : Nat → RI} (h : RnI w A n R) (e : Ext w w') : RnI w' A n R := fun hn => by
  obtain ⟨b, o, h1, hb, hc⟩ := h hn
  exact ⟨b, o, h1, Nat.lt_of_lt_of_le hb e.size, fun i hi => by
    obtain ⟨c0, c1, c2, c3, c4, c5⟩ := hc i hi
    exact ⟨(e.old.1 _ _ hb).trans c0, (e.old.1 _ _ hb).trans c1, (e.old.1 _ _ hb).trans c2, (e.old.1 _ _ hb).trans c3, (e.old.1 _ _ hb).trans c4, (e.old.1 _ _ hb).trans c5⟩⟩
structure LnI (w : World) (A : Option Addr) (n : Nat) (R : Nat → RI) (V : Nat → IV) : Prop where
  rn : RnI w A n R
  el : ∀ i, i < n → CnI w (R i) (V i)
theorem LnI.ext {w w' : World} {A : Option Addr} {n : Nat} {R : Nat → RI} {V : Nat → IV} (h : LnI w A n R V) (e : Ext w w') : LnI w' A n R V := ⟨h.rn.ext e, fun i hi => (h.el i hi).ext e⟩
theorem LnI.congr {w : World} {A : Option Addr} {n : Nat} {R : Nat → RI} {V V' : Nat → IV} (h : LnI w A n R V) (e : ∀ i, i < n → V i = V' i) : LnI w A n R V' := ⟨h.rn, fun i hi => by rw [← e i hi]; exact h.el i hi⟩

/-! ### Rows that are made and written -/
def rci (R : Nat → RI) (j : Nat) : Value :=
  if j % 6 = 0 then .bool (R (j / 6)).lo.neg else if j % 6 = 1 then .slice (R (j / 6)).lo.A (R (j / 6)).lo.n (R (j / 6)).lo.c else if j % 6 = 2 then I (R (j / 6)).lo.den else
  if j % 6 = 3 then .bool (R (j / 6)).hi.neg else if j % 6 = 4 then .slice (R (j / 6)).hi.A (R (j / 6)).hi.n (R (j / 6)).hi.c else I (R (j / 6)).hi.den
def putI {α : Type} (V : Nat → α) (i : Nat) (x : α) : Nat → α := fun j => if j = i then x else V j
theorem infoIv : (Tryz.prog.info? 58).map (fun i => (i.zero.map (fun z => z.cells), i.size, i.bytes)) = some (some #[.bool false, .slice none 0 0, I 0, .bool false, .slice none 0 0, I 0], 6, 80) := by kernel_rfl
theorem infoIv' : ∃ i z, Tryz.prog.info? 58 = some i ∧ i.zero = some z ∧ i.size = 6 ∧ i.bytes = 80 ∧ z.cells = #[.bool false, .slice none 0 0, I 0, .bool false, .slice none 0 0, I 0] := by
  have h := infoIv
  cases hi : Tryz.prog.info? 58 with
  | none => rw [hi] at h; cases h
  | some i =>
    rw [hi] at h
    simp only [Option.map_some, Option.some.injEq, Prod.mk.injEq] at h
    obtain ⟨h1, h2, h3⟩ := h
    cases hz : i.zero with
    | none => rw [hz] at h1; cases h1
    | some z =>
      rw [hz] at h1
      exact ⟨i, z, rfl, hz, h2, h3, by simpa using h1⟩
theorem run_makeI (w : World) (n : Nat) (hn : n ≤ 100000) : (Instr.makeSlice 27 (I n) (I n)).run Tryz.prog w = .ok (.slice (some ⟨w.heap.size, 0, none⟩) n n) (w.alloc (.cells (madeCells #[.bool false, .slice none 0 0, I 0, .bool false, .slice none 0 0, I 0] (n * 6)) 58)) := by
  obtain ⟨i, z, hi, hz, h1, hb, hzs⟩ := infoIv'
  have hr := run_make (P := Tryz.prog) w 27 58 i z Tryz.underlying27 hi hz .i64 .i64 n n (by omega) (Int.le_refl _) (by rw [hb]; omega) (by omega)
  simp only [Int.toNat_natCast, h1, hzs] at hr
  exact hr
theorem rowIs_madeI (w : World) (n : Nat) (t : TypeId) {g : Nat} (hg : g = w.heap.size) : (w.alloc (.cells (madeCells #[.bool false, .slice none 0 0, I 0, .bool false, .slice none 0 0, I 0] (n * 6)) t)).rowIs g t (n * 6) (rci fun _ => RI.z) := by
  subst hg
  have h := World.rowIs_alloc w (madeCells #[.bool false, .slice none 0 0, I 0, .bool false, .slice none 0 0, I 0] (n * 6)) t (rci fun _ => RI.z) (fun i hi => by
    rw [size_madeCells] at hi
    unfold madeCells rci
    have h3 : i % 6 = 0 ∨ i % 6 = 1 ∨ i % 6 = 2 ∨ i % 6 = 3 ∨ i % 6 = 4 ∨ i % 6 = 5 := by omega
    rcases h3 with h | h | h | h | h | h <;> simp [hi, h, RI.z, RN.z])
  rw [size_madeCells] at h
  exact h
/-- A row of n intervals that is being written. -/
structure LvI (w : World) (g n : Nat) (R : Nat → RI) (V : Nat → IV) : Prop where
  row : w.rowIs g 58 (n * 6) (rci R)
  el : ∀ i, i < n → CnI w (R i) (V i)
  ne : ∀ i, i < n → FarI g (R i) (V i)
theorem LvI.ext {w w' : World} {g n : Nat} {R : Nat → RI} {V : Nat → IV} (h : LvI w g n R V) (e : Ext w w') : LvI w' g n R V := ⟨h.row.of_block (e.block g h.row.lt), fun i hi => (h.el i hi).ext e, h.ne⟩
theorem LvI.congr {w : World} {g n : Nat} {R : Nat → RI} {V V' : Nat → IV} (h : LvI w g n R V) (e : ∀ i, i < n → V i = V' i) : LvI w g n R V' := ⟨h.row, fun i hi => by rw [← e i hi]; exact h.el i hi, fun i hi => by rw [← e i hi]; exact h.ne i hi⟩
theorem LvI.new (w : World) (n : Nat) {g : Nat} (hg : g = w.heap.size) : LvI (w.alloc (.cells (madeCells #[.bool false, .slice none 0 0, I 0, .bool false, .slice none 0 0, I 0] (n * 6)) 58)) g n (fun _ => RI.z) (fun _ => IV.z) :=
  ⟨rowIs_madeI w n _ hg, fun _ _ => CnI.z _, fun _ _ => FarI.z _⟩
theorem LvI.cells {w : World} {g n : Nat} {R : Nat → RI} {V : Nat → IV} (h : LvI w g n R V) {i : Nat} (hi : i < n) :
    w.cell? ⟨g, i * 6, none⟩ = some (.bool (R i).lo.neg) ∧ w.cell? ⟨g, i * 6 + 1, none⟩ = some (.slice (R i).lo.A (R i).lo.n (R i).lo.c) ∧ w.cell? ⟨g, i * 6 + 2, none⟩ = some (I (R i).lo.den) ∧
    w.cell? ⟨g, i * 6 + 3, none⟩ = some (.bool (R i).hi.neg) ∧ w.cell? ⟨g, i * 6 + 4, none⟩ = some (.slice (R i).hi.A (R i).hi.n (R i).hi.c) ∧ w.cell? ⟨g, i * 6 + 5, none⟩ = some (I (R i).hi.den) := by
  have a := h.row.cell (i := i * 6) (by omega)
  have b := h.row.cell (i := i * 6 + 1) (by omega)
  have c := h.row.cell (i := i * 6 + 2) (by omega)
  have d := h.row.cell (i := i * 6 + 3) (by omega)
  have e := h.row.cell (i := i * 6 + 4) (by omega)
  have f := h.row.cell (i := i * 6 + 5) (by omega)
  unfold rci at a b c d e f
  rw [if_pos (by omega), show i * 6 / 6 = i by omega] at a
  rw [if_neg (by omega), if_pos (by omega), show (i * 6 + 1) / 6 = i by omega] at b
  rw [if_neg (by omega), if_neg (by omega), if_pos (by omega), show (i * 6 + 2) / 6 = i by omega] at c
  rw [if_neg (by omega), if_neg (by omega), if_neg (by omega), if_pos (by omega), show (i * 6 + 3) / 6 = i by omega] at d
  rw [if_neg (by omega), if_neg (by omega), if_neg (by omega), if_neg (by omega), if_pos (by omega), show (i * 6 + 4) / 6 = i by omega] at e
  rw [if_neg (by omega), if_neg (by omega), if_neg (by omega), if_neg (by omega), if_neg (by omega), show (i * 6 + 5) / 6 = i by omega] at f
  exact ⟨a, b, c, d, e, f⟩
theorem LvI.frozen {w : World} {g n : Nat} {R : Nat → RI} {V : Nat → IV} (h : LvI w g n R V) (i : Nat) : w.frozen? ⟨g, i, none⟩ = false := h.row.frozen i
theorem LvI.ln {w : World} {g n : Nat} {R : Nat → RI} {V : Nat → IV} (h : LvI w g n R V) : LnI w (some ⟨g, 0, none⟩) n R V :=
  ⟨fun _ => ⟨g, 0, rfl, h.row.lt, fun i hi => by rw [Nat.zero_add]; exact h.cells hi⟩, h.el⟩
/-- The six stores that lay an element. -/
abbrev st6 (w : World) (g i : Nat) (r : RI) : World := (((((w.setCell ⟨g, i * 6, none⟩ (.bool r.lo.neg)).setCell ⟨g, i * 6 + 1, none⟩ (.slice r.lo.A r.lo.n r.lo.c)).setCell ⟨g, i * 6 + 2, none⟩ (I r.lo.den)).setCell ⟨g, i * 6 + 3, none⟩ (.bool r.hi.neg)).setCell ⟨g, i * 6 + 4, none⟩ (.slice r.hi.A r.hi.n r.hi.c)).setCell ⟨g, i * 6 + 5, none⟩ (I r.hi.den)
theorem st6_fr (w : World) (g i : Nat) (r : RI) : w.grownBy (st6 w g i r) (some g) := fr_trans (fr_trans (fr_trans (fr_trans (fr_trans (fr_set _ _ _ _) (fr_set _ _ _ _)) (fr_set _ _ _ _)) (fr_set _ _ _ _)) (fr_set _ _ _ _)) (fr_set _ _ _ _)
theorem st6_ext {W w : World} (g i : Nat) (r : RI) (e : Ext W w) (hg : W.heap.size ≤ g) : Ext W (st6 w g i r) := ext_fr e (st6_fr w g i r) hg
theorem LvI.put {w : World} {g n : Nat} {R : Nat → RI} {V : Nat → IV} (h : LvI w g n R V) (i : Nat) (r : RI) (d : IV) (c : CnI w r d) (hne : FarI g r d) : LvI (st6 w g i r) g n (putI R i r) (putI V i d) := by
  refine ⟨((((((h.row.set (i * 6) _).set (i * 6 + 1) _).set (i * 6 + 2) _).set (i * 6 + 3) _).set (i * 6 + 4) _).set (i * 6 + 5) _).congr fun j _ => ?_, fun j hj => ?_, fun j hj => ?_⟩
  · unfold rci putI
    by_cases h5 : j = i * 6 + 5
    · subst h5
      rw [if_pos rfl, if_neg (by omega), if_neg (by omega), if_neg (by omega), if_neg (by omega), if_neg (by omega), show (i * 6 + 5) / 6 = i by omega, if_pos rfl]
    · rw [if_neg h5]
      by_cases h4 : j = i * 6 + 4
      · subst h4
        rw [if_pos rfl, if_neg (by omega), if_neg (by omega), if_neg (by omega), if_neg (by omega), if_pos (by omega), show (i * 6 + 4) / 6 = i by omega, if_pos rfl]
      · rw [if_neg h4]
        by_cases h3 : j = i * 6 + 3
        · subst h3
          rw [if_pos rfl, if_neg (by omega), if_neg (by omega), if_neg (by omega), if_pos (by omega), show (i * 6 + 3) / 6 = i by omega, if_pos rfl]
        · rw [if_neg h3]
          by_cases h2 : j = i * 6 + 2
          · subst h2
            rw [if_pos rfl, if_neg (by omega), if_neg (by omega), if_pos (by omega), show (i * 6 + 2) / 6 = i by omega, if_pos rfl]
          · rw [if_neg h2]
            by_cases h1 : j = i * 6 + 1
            · subst h1
              rw [if_pos rfl, if_neg (by omega), if_pos (by omega), show (i * 6 + 1) / 6 = i by omega, if_pos rfl]
            · rw [if_neg h1]
              by_cases h0 : j = i * 6
              · subst h0
                rw [if_pos rfl, if_pos (by omega), show i * 6 / 6 = i by omega, if_pos rfl]
              · have hq : ¬ j / 6 = i := by omega
                rw [if_neg h0]; simp only [if_neg hq]
  · have a := (h.el j hj).fr (st6_fr w g i r) (h.ne j hj)
    unfold putI
    by_cases e : j = i
    · rw [if_pos e, if_pos e]; exact c.fr (st6_fr w g i r) hne
    · rw [if_neg e, if_neg e]; exact a
  · unfold putI
    by_cases e : j = i
    · rw [if_pos e, if_pos e]; exact hne
    · rw [if_neg e, if_neg e]; exact h.ne j hj
/-- A list that is being built: its row is newer than W, so are its intervals. -/
structure BuI (W w : World) (g m : Nat) (R : Nat → RI) (V : Nat → IV) : Prop where
  ext : Ext W w
  old : W.heap.size ≤ g
  lv : LvI w g m R V
  nw : ∀ i, i < m → NwI W.heap.size (R i) (V i)
theorem BuI.to {W w w' : World} {g m : Nat} {R : Nat → RI} {V : Nat → IV} (h : BuI W w g m R V) (e : Ext w w') : BuI W w' g m R V := ⟨h.ext.trans e, h.old, h.lv.ext e, h.nw⟩
theorem BuI.congr {W w : World} {g m : Nat} {R : Nat → RI} {V V' : Nat → IV} (h : BuI W w g m R V) (e : ∀ i, i < m → V i = V' i) : BuI W w g m R V' := ⟨h.ext, h.old, h.lv.congr e, fun i hi => by rw [← e i hi]; exact h.nw i hi⟩
theorem BuI.new {W w : World} (m : Nat) {g : Nat} (e : Ext W w) (hg : g = w.heap.size) : BuI W (w.alloc (.cells (madeCells #[.bool false, .slice none 0 0, I 0, .bool false, .slice none 0 0, I 0] (m * 6)) 58)) g m (fun _ => RI.z) (fun _ => IV.z) :=
  ⟨e.trans (Ext.alloc _ _), by rw [hg]; exact e.size, LvI.new w m hg, fun _ _ => NwI.z _⟩
theorem BuI.put {W w w1 : World} {g m : Nat} {R : Nat → RI} {V : Nat → IV} (h : BuI W w g m R V) (e : Ext w w1) (i : Nat) (r : RI) (d : IV) (cn : CnI w1 r d) (hA : NwI w.heap.size r d) :
    BuI W (st6 w1 g i r) g m (putI R i r) (putI V i d) := by
  have hgl := h.lv.row.lt
  have hsz := h.ext.size
  refine ⟨st6_ext g i _ (h.ext.trans e) h.old, h.old, (h.lv.ext e).put i _ d cn (hA.far hgl), fun j hj => ?_⟩
  unfold putI
  by_cases q : j = i
  · rw [if_pos q, if_pos q]; exact hA.mono hsz
  · rw [if_neg q, if_neg q]; exact h.nw j hj
/-- What a function returns: a list of intervals in new memory. -/
def LvR6 (n : Nat) (V : Nat → IV) (w : World) (e : Ending) (w' : World) : Prop := ∃ g R, e = .returned (.slice (some ⟨g, 0, none⟩) n n) ∧ BuI w w' g n R V
def uptoI (F : Nat → IV) (j : Nat) : Nat → IV := fun k => if k < j then F k else IV.z
theorem uptoI_put (F : Nat → IV) (j : Nat) (i : Nat) : putI (uptoI F j) j (F j) i = uptoI F (j + 1) i := by
  unfold putI uptoI
  by_cases e : i = j
  · subst e; rw [if_pos rfl, if_pos (by omega)]
  · rw [if_neg e]
    by_cases q : i < j
    · rw [if_pos q, if_pos (by omega)]
    · rw [if_neg q, if_neg (by omega)]
theorem uptoI_end {F : Nat → IV} {m i : Nat} (h : i < m) : uptoI F m i = F i := if_pos h
end Go.Proofs.YtgnngldlgcdnfaaGreatDoor
