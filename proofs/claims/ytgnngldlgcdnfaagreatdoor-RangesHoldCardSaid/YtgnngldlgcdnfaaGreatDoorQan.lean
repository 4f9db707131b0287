import Derived.Test.YtgnngldlgcdnfaaGreatDoorQai
import Derived.Test.YtgnngldlgcdnfaaGreatDoorQam
import Derived.Test.YtgnngldlgcdnfaaGreatDoorQag
namespace Go.Proofs.YtgnngldlgcdnfaaGreatDoor
section
open Go Go.RowKit
structure RI where
 lo : RN
 hi : RN
abbrev RI.v (r : RI) : Value := iv r.lo.neg r.lo.A r.lo.n r.lo.c r.lo.den r.hi.neg r.hi.A r.hi.n r.hi.c r.hi.den
def RI.z : RI := ⟨RN.z, RN.z⟩
def ciR (x : IV) (A : Option Addr) (c : Nat) (B : Option Addr) (k : Nat) : RI := ⟨cnR x.lo A c, cnR x.hi B k⟩
structure CnI (w : World) (r : RI) (x : IV) : Prop where
 lo : Cn w r.lo x.lo
 hi : Cn w r.hi x.hi
 el : len x.lo.m ≤ 1048576
 eh : len x.hi.m ≤ 1048576
 le : x.lo.q ≤ x.hi.q
theorem CnI.ext {w w' : World} {r : RI} {x : IV} (h : CnI w r x) (e : Ext w w') : CnI w' r x := ⟨h.lo.ext e, h.hi.ext e, h.el, h.eh, h.le⟩
theorem CnI.iw {w : World} {r : RI} {x : IV} (h : CnI w r x) : Iw w r.lo.neg r.lo.A r.lo.n r.lo.c r.lo.den r.hi.neg r.hi.A r.hi.n r.hi.c r.hi.den x.lo x.hi r.lo.A r.lo.c r.hi.A r.hi.c := by
 have := iv_ok h.lo.rd h.lo.sl ⟨h.lo.ok, h.el⟩ h.hi.rd h.hi.sl ⟨h.hi.ok, h.eh⟩ h.le
 rw [h.lo.neg, h.lo.n, h.lo.den, h.hi.neg, h.hi.n, h.hi.den]; exact this
theorem CnI.z (w : World) : CnI w RI.z IV.z := ⟨Cn.z w, Cn.z w, by show len 0 ≤ _; rw [show len 0 = 0 from zero_len]; omega, by show len 0 ≤ _; rw [show len 0 = 0 from zero_len]; omega, Rat.le_refl⟩
def NwI (base : Nat) (r : RI) (x : IV) : Prop := (0 < len x.lo.m → ∀ a, r.lo.A = some a → base ≤ a.block) ∧ (0 < len x.hi.m → ∀ a, r.hi.A = some a → base ≤ a.block)
theorem NwI.mono {b b' : Nat} {r : RI} {x : IV} (h : NwI b r x) (e : b' ≤ b) : NwI b' r x := ⟨fun q a ha => Nat.le_trans e (h.1 q a ha), fun q a ha => Nat.le_trans e (h.2 q a ha)⟩
def FarI (g : Nat) (r : RI) (x : IV) : Prop := (0 < len x.lo.m → ∀ a, r.lo.A = some a → a.block ≠ g) ∧ (0 < len x.hi.m → ∀ a, r.hi.A = some a → a.block ≠ g)
theorem NwI.far {b g : Nat} {r : RI} {x : IV} (h : NwI b r x) (hg : g < b) : FarI g r x := ⟨fun q a ha e => by have := h.1 q a ha; omega, fun q a ha e => by have := h.2 q a ha; omega⟩
theorem CnI.lt {w : World} {r : RI} {x : IV} (h : CnI w r x) : (0 < len x.lo.m → ∀ a, r.lo.A = some a → a.block < w.heap.size) ∧ (0 < len x.hi.m → ∀ a, r.hi.A = some a → a.block < w.heap.size) := by
 have key : ∀ {r : RN} {d : DV}, Cn w r d → 0 < len d.m → ∀ a, r.A = some a → a.block < w.heap.size := fun c q a ha => by
  obtain ⟨b, o, e, hb, _⟩ := c.rd q
  rw [ha] at e; injection e with e; subst e; exact hb
 exact ⟨key h.lo, key h.hi⟩
theorem CnI.farNew {w : World} {r : RI} {x : IV} {g : Nat} (h : CnI w r x) (hg : w.heap.size ≤ g) : FarI g r x :=
 ⟨fun q a ha e => by have := h.lt.1 q a ha; omega, fun q a ha e => by have := h.lt.2 q a ha; omega⟩
theorem CnI.fr {w w' : World} {r : RI} {x : IV} {g : Nat} (h : CnI w r x) (e : w.grownBy w' (some g)) (hne : FarI g r x) : CnI w' r x := ⟨h.lo.fr e hne.1, h.hi.fr e hne.2, h.el, h.eh, h.le⟩
theorem IvRes.cn {a b : DV} {w : World} {e : Ending} {w' : World} (h : IvRes a b w e w') (ha : End a) (hb : End b) (hle : a.q ≤ b.q) :
  ∃ A c B k, e = .returned (ciR ⟨a, b⟩ A c B k).v ∧ CnI w' (ciR ⟨a, b⟩ A c B k) ⟨a, b⟩ ∧ NwI w.heap.size (ciR ⟨a, b⟩ A c B k) ⟨a, b⟩ ∧ Ext w w' := by
 obtain ⟨A, c, B, k, he, h1, h2, h3⟩ := h
 exact ⟨A, c, B, k, he, ⟨Cn.of h1.rd h1.ok ha.1 (Nat.le_trans ha.2 (by decide)), Cn.of h2.rd h2.ok hb.1 (Nat.le_trans hb.2 (by decide)), ha.2, hb.2, hle⟩, ⟨h1.2.2, h2.2.2⟩, h3⟩
theorem zA {a : Addr} (h : RI.z.lo.A = some a) : False := by cases h
theorem zB {a : Addr} (h : RI.z.hi.A = some a) : False := by cases h
theorem FarI.z (g : Nat) : FarI g RI.z IV.z := And.intro (fun _ _ h => (zA h).elim) (fun _ _ h => (zB h).elim)
theorem NwI.z (g : Nat) : NwI g RI.z IV.z := And.intro (fun _ _ h => (zA h).elim) (fun _ _ h => (zB h).elim)
def RnI (w : World) (A : Option Addr) (n : Nat) (R : Nat → RI) : Prop :=
 0 < n → ∃ b o, A = some ⟨b, o, none⟩ ∧ b < w.heap.size ∧ ∀ i, i < n → w.cell? ⟨b, o + i * 6, none⟩ = some (.bool (R i).lo.neg) ∧ w.cell? ⟨b, o + i * 6 + 1, none⟩ = some (.slice (R i).lo.A (R i).lo.n (R i).lo.c) ∧ w.cell? ⟨b, o + i * 6 + 2, none⟩ = some (I (R i).lo.den) ∧
  w.cell? ⟨b, o + i * 6 + 3, none⟩ = some (.bool (R i).hi.neg) ∧ w.cell? ⟨b, o + i * 6 + 4, none⟩ = some (.slice (R i).hi.A (R i).hi.n (R i).hi.c) ∧ w.cell? ⟨b, o + i * 6 + 5, none⟩ = some (I (R i).hi.den)
theorem RnI.none_ {w : World} {A : Option Addr} {R : Nat → RI} : RnI w A 0 R := fun h => absurd h (by omega)
theorem RnI.ext {w w' : World} {A : Option Addr} {n : Nat} {R : Nat → RI} (h : RnI w A n R) (e : Ext w w') : RnI w' A n R := fun hn => by
 obtain ⟨b, o, h1, hb, hc⟩ := h hn
 exact ⟨b, o, h1, Nat.lt_of_lt_of_le hb e.size, fun i hi => by
  obtain ⟨c0, c1, c2, c3, c4, c5⟩ := hc i hi
  exact ⟨(e.old.1 _ _ hb).trans c0, (e.old.1 _ _ hb).trans c1, (e.old.1 _ _ hb).trans c2, (e.old.1 _ _ hb).trans c3, (e.old.1 _ _ hb).trans c4, (e.old.1 _ _ hb).trans c5⟩⟩
structure LnI (w : World) (A : Option Addr) (n : Nat) (R : Nat → RI) (V : Nat → IV) : Prop where
 rn : RnI w A n R
 el : ∀ i, i < n → CnI w (R i) (V i)
theorem LnI.ext {w w' : World} {A : Option Addr} {n : Nat} {R : Nat → RI} {V : Nat → IV} (h : LnI w A n R V) (e : Ext w w') : LnI w' A n R V := ⟨h.rn.ext e, fun i hi => (h.el i hi).ext e⟩
theorem LnI.congr {w : World} {A : Option Addr} {n : Nat} {R : Nat → RI} {V V' : Nat → IV} (h : LnI w A n R V) (e : ∀ i, i < n → V i = V' i) : LnI w A n R V' := ⟨h.rn, fun i hi => by rw [← e i hi]; exact h.el i hi⟩
def rci (R : Nat → RI) (j : Nat) : Value :=
 if j % 6 = 0 then .bool (R (j / 6)).lo.neg else if j % 6 = 1 then .slice (R (j / 6)).lo.A (R (j / 6)).lo.n (R (j / 6)).lo.c else if j % 6 = 2 then I (R (j / 6)).lo.den else
 if j % 6 = 3 then .bool (R (j / 6)).hi.neg else if j % 6 = 4 then .slice (R (j / 6)).hi.A (R (j / 6)).hi.n (R (j / 6)).hi.c else I (R (j / 6)).hi.den
def putI {α : Type} (V : Nat → α) (i : Nat) (x : α) : Nat → α := fun j => if j = i then x else V j
theorem infoIv : (Tryz.prog.info? 58).map (fun i => (i.zero.map (fun z => z.cells), i.size, i.bytes)) = some (some #[.bool false, .slice none 0 0, I 0, .bool false, .slice none 0 0, I 0], 6, 80) := by kernel_rfl
theorem infoIv' : ∃ i z, Tryz.prog.info? 58 = some i ∧ i.zero = some z ∧ i.size = 6 ∧ i.bytes = 80 ∧ z.cells = #[.bool false, .slice none 0 0, I 0, .bool false, .slice none 0 0, I 0] := by
 have h := infoIv
 cases hi : Tryz.prog.info? 58 with
 | none => rw [hi] at h; cases h
 | some i =>
  rw [hi] at h
  simp only [Option.map_some, Option.some.injEq, Prod.mk.injEq] at h
  obtain ⟨h1, h2, h3⟩ := h
  cases hz : i.zero with
  | none => rw [hz] at h1; cases h1
  | some z =>
   rw [hz] at h1
   exact ⟨i, z, rfl, hz, h2, h3, by simpa using h1⟩
theorem run_makeI (w : World) (n : Nat) (hn : n ≤ 100000) : (Instr.makeSlice 27 (I n) (I n)).run Tryz.prog w = .ok (.slice (some ⟨w.heap.size, 0, none⟩) n n) (w.alloc (.cells (madeCells #[.bool false, .slice none 0 0, I 0, .bool false, .slice none 0 0, I 0] (n * 6)) 58)) := by
 obtain ⟨i, z, hi, hz, h1, hb, hzs⟩ := infoIv'
 have hr := run_make (P := Tryz.prog) w 27 58 i z Tryz.underlying27 hi hz .i64 .i64 n n (by omega) (Int.le_refl _) (by rw [hb]; omega) (by omega)
 simp only [Int.toNat_natCast, h1, hzs] at hr
 exact hr
theorem rowIs_madeI (w : World) (n : Nat) (t : TypeId) {g : Nat} (hg : g = w.heap.size) : (w.alloc (.cells (madeCells #[.bool false, .slice none 0 0, I 0, .bool false, .slice none 0 0, I 0] (n * 6)) t)).rowIs g t (n * 6) (rci fun _ => RI.z) := by
 subst hg
 have h := World.rowIs_alloc w (madeCells #[.bool false, .slice none 0 0, I 0, .bool false, .slice none 0 0, I 0] (n * 6)) t (rci fun _ => RI.z) (fun i hi => by
  rw [size_madeCells] at hi
  unfold madeCells rci
  have h3 : i % 6 = 0 ∨ i % 6 = 1 ∨ i % 6 = 2 ∨ i % 6 = 3 ∨ i % 6 = 4 ∨ i % 6 = 5 := by omega
  rcases h3 with h | h | h | h | h | h <;> simp [hi, h, RI.z, RN.z])
 rw [size_madeCells] at h
 exact h
structure LvI (w : World) (g n : Nat) (R : Nat → RI) (V : Nat → IV) : Prop where
 row : w.rowIs g 58 (n * 6) (rci R)
 el : ∀ i, i < n → CnI w (R i) (V i)
 ne : ∀ i, i < n → FarI g (R i) (V i)
theorem LvI.ext {w w' : World} {g n : Nat} {R : Nat → RI} {V : Nat → IV} (h : LvI w g n R V) (e : Ext w w') : LvI w' g n R V := ⟨h.row.of_block (e.block g h.row.lt), fun i hi => (h.el i hi).ext e, h.ne⟩
theorem LvI.congr {w : World} {g n : Nat} {R : Nat → RI} {V V' : Nat → IV} (h : LvI w g n R V) (e : ∀ i, i < n → V i = V' i) : LvI w g n R V' := ⟨h.row, fun i hi => by rw [← e i hi]; exact h.el i hi, fun i hi => by rw [← e i hi]; exact h.ne i hi⟩
theorem LvI.new (w : World) (n : Nat) {g : Nat} (hg : g = w.heap.size) : LvI (w.alloc (.cells (madeCells #[.bool false, .slice none 0 0, I 0, .bool false, .slice none 0 0, I 0] (n * 6)) 58)) g n (fun _ => RI.z) (fun _ => IV.z) :=
 ⟨rowIs_madeI w n _ hg, fun _ _ => CnI.z _, fun _ _ => FarI.z _⟩
theorem LvI.cells {w : World} {g n : Nat} {R : Nat → RI} {V : Nat → IV} (h : LvI w g n R V) {i : Nat} (hi : i < n) :
  w.cell? ⟨g, i * 6, none⟩ = some (.bool (R i).lo.neg) ∧ w.cell? ⟨g, i * 6 + 1, none⟩ = some (.slice (R i).lo.A (R i).lo.n (R i).lo.c) ∧ w.cell? ⟨g, i * 6 + 2, none⟩ = some (I (R i).lo.den) ∧
  w.cell? ⟨g, i * 6 + 3, none⟩ = some (.bool (R i).hi.neg) ∧ w.cell? ⟨g, i * 6 + 4, none⟩ = some (.slice (R i).hi.A (R i).hi.n (R i).hi.c) ∧ w.cell? ⟨g, i * 6 + 5, none⟩ = some (I (R i).hi.den) := by
 have a := h.row.cell (i := i * 6) (by omega)
 have b := h.row.cell (i := i * 6 + 1) (by omega)
 have c := h.row.cell (i := i * 6 + 2) (by omega)
 have d := h.row.cell (i := i * 6 + 3) (by omega)
 have e := h.row.cell (i := i * 6 + 4) (by omega)
 have f := h.row.cell (i := i * 6 + 5) (by omega)
 unfold rci at a b c d e f
 rw [if_pos (by omega), show i * 6 / 6 = i by omega] at a
 rw [if_neg (by omega), if_pos (by omega), show (i * 6 + 1) / 6 = i by omega] at b
 rw [if_neg (by omega), if_neg (by omega), if_pos (by omega), show (i * 6 + 2) / 6 = i by omega] at c
 rw [if_neg (by omega), if_neg (by omega), if_neg (by omega), if_pos (by omega), show (i * 6 + 3) / 6 = i by omega] at d
 rw [if_neg (by omega), if_neg (by omega), if_neg (by omega), if_neg (by omega), if_pos (by omega), show (i * 6 + 4) / 6 = i by omega] at e
 rw [if_neg (by omega), if_neg (by omega), if_neg (by omega), if_neg (by omega), if_neg (by omega), show (i * 6 + 5) / 6 = i by omega] at f
 exact ⟨a, b, c, d, e, f⟩
theorem LvI.frozen {w : World} {g n : Nat} {R : Nat → RI} {V : Nat → IV} (h : LvI w g n R V) (i : Nat) : w.frozen? ⟨g, i, none⟩ = false := h.row.frozen i
theorem LvI.ln {w : World} {g n : Nat} {R : Nat → RI} {V : Nat → IV} (h : LvI w g n R V) : LnI w (some ⟨g, 0, none⟩) n R V :=
 ⟨fun _ => ⟨g, 0, rfl, h.row.lt, fun i hi => by rw [Nat.zero_add]; exact h.cells hi⟩, h.el⟩
abbrev st6 (w : World) (g i : Nat) (r : RI) : World := (((((w.setCell ⟨g, i * 6, none⟩ (.bool r.lo.neg)).setCell ⟨g, i * 6 + 1, none⟩ (.slice r.lo.A r.lo.n r.lo.c)).setCell ⟨g, i * 6 + 2, none⟩ (I r.lo.den)).setCell ⟨g, i * 6 + 3, none⟩ (.bool r.hi.neg)).setCell ⟨g, i * 6 + 4, none⟩ (.slice r.hi.A r.hi.n r.hi.c)).setCell ⟨g, i * 6 + 5, none⟩ (I r.hi.den)
theorem st6_fr (w : World) (g i : Nat) (r : RI) : w.grownBy (st6 w g i r) (some g) := fr_trans (fr_trans (fr_trans (fr_trans (fr_trans (fr_set _ _ _ _) (fr_set _ _ _ _)) (fr_set _ _ _ _)) (fr_set _ _ _ _)) (fr_set _ _ _ _)) (fr_set _ _ _ _)
theorem st6_ext {W w : World} (g i : Nat) (r : RI) (e : Ext W w) (hg : W.heap.size ≤ g) : Ext W (st6 w g i r) := ext_fr e (st6_fr w g i r) hg
theorem LvI.put {w : World} {g n : Nat} {R : Nat → RI} {V : Nat → IV} (h : LvI w g n R V) (i : Nat) (r : RI) (d : IV) (c : CnI w r d) (hne : FarI g r d) : LvI (st6 w g i r) g n (putI R i r) (putI V i d) := by
 refine ⟨((((((h.row.set (i * 6) _).set (i * 6 + 1) _).set (i * 6 + 2) _).set (i * 6 + 3) _).set (i * 6 + 4) _).set (i * 6 + 5) _).congr fun j _ => ?_, fun j hj => ?_, fun j hj => ?_⟩
 ·unfold rci putI
  by_cases h5 : j = i * 6 + 5
  ·subst h5
   rw [if_pos rfl, if_neg (by omega), if_neg (by omega), if_neg (by omega), if_neg (by omega), if_neg (by omega), show (i * 6 + 5) / 6 = i by omega, if_pos rfl]
  ·rw [if_neg h5]
   by_cases h4 : j = i * 6 + 4
   ·subst h4
    rw [if_pos rfl, if_neg (by omega), if_neg (by omega), if_neg (by omega), if_neg (by omega), if_pos (by omega), show (i * 6 + 4) / 6 = i by omega, if_pos rfl]
   ·rw [if_neg h4]
    by_cases h3 : j = i * 6 + 3
    ·subst h3
     rw [if_pos rfl, if_neg (by omega), if_neg (by omega), if_neg (by omega), if_pos (by omega), show (i * 6 + 3) / 6 = i by omega, if_pos rfl]
    ·rw [if_neg h3]
     by_cases h2 : j = i * 6 + 2
     ·subst h2
      rw [if_pos rfl, if_neg (by omega), if_neg (by omega), if_pos (by omega), show (i * 6 + 2) / 6 = i by omega, if_pos rfl]
     ·rw [if_neg h2]
      by_cases h1 : j = i * 6 + 1
      ·subst h1
       rw [if_pos rfl, if_neg (by omega), if_pos (by omega), show (i * 6 + 1) / 6 = i by omega, if_pos rfl]
      ·rw [if_neg h1]
       by_cases h0 : j = i * 6
       ·subst h0
        rw [if_pos rfl, if_pos (by omega), show i * 6 / 6 = i by omega, if_pos rfl]
       ·have hq : ¬ j / 6 = i := by omega
        rw [if_neg h0]; simp only [if_neg hq]
 ·have a := (h.el j hj).fr (st6_fr w g i r) (h.ne j hj)
  unfold putI
  by_cases e : j = i
  ·rw [if_pos e, if_pos e]; exact c.fr (st6_fr w g i r) hne
  ·rw [if_neg e, if_neg e]; exact a
 ·unfold putI
  by_cases e : j = i
  ·rw [if_pos e, if_pos e]; exact hne
  ·rw [if_neg e, if_neg e]; exact h.ne j hj
structure BuI (W w : World) (g m : Nat) (R : Nat → RI) (V : Nat → IV) : Prop where
 ext : Ext W w
 old : W.heap.size ≤ g
 lv : LvI w g m R V
 nw : ∀ i, i < m → NwI W.heap.size (R i) (V i)
theorem BuI.to {W w w' : World} {g m : Nat} {R : Nat → RI} {V : Nat → IV} (h : BuI W w g m R V) (e : Ext w w') : BuI W w' g m R V := ⟨h.ext.trans e, h.old, h.lv.ext e, h.nw⟩
theorem BuI.congr {W w : World} {g m : Nat} {R : Nat → RI} {V V' : Nat → IV} (h : BuI W w g m R V) (e : ∀ i, i < m → V i = V' i) : BuI W w g m R V' := ⟨h.ext, h.old, h.lv.congr e, fun i hi => by rw [← e i hi]; exact h.nw i hi⟩
theorem BuI.new {W w : World} (m : Nat) {g : Nat} (e : Ext W w) (hg : g = w.heap.size) : BuI W (w.alloc (.cells (madeCells #[.bool false, .slice none 0 0, I 0, .bool false, .slice none 0 0, I 0] (m * 6)) 58)) g m (fun _ => RI.z) (fun _ => IV.z) :=
 ⟨e.trans (Ext.alloc _ _), by rw [hg]; exact e.size, LvI.new w m hg, fun _ _ => NwI.z _⟩
theorem BuI.put {W w w1 : World} {g m : Nat} {R : Nat → RI} {V : Nat → IV} (h : BuI W w g m R V) (e : Ext w w1) (i : Nat) (r : RI) (d : IV) (cn : CnI w1 r d) (hA : NwI w.heap.size r d) :
  BuI W (st6 w1 g i r) g m (putI R i r) (putI V i d) := by
 have hgl := h.lv.row.lt
 have hsz := h.ext.size
 refine ⟨st6_ext g i _ (h.ext.trans e) h.old, h.old, (h.lv.ext e).put i _ d cn (hA.far hgl), fun j hj => ?_⟩
 unfold putI
 by_cases q : j = i
 ·rw [if_pos q, if_pos q]; exact hA.mono hsz
 ·rw [if_neg q, if_neg q]; exact h.nw j hj
def LvR6 (n : Nat) (V : Nat → IV) (w : World) (e : Ending) (w' : World) : Prop := ∃ g R, e = .returned (.slice (some ⟨g, 0, none⟩) n n) ∧ BuI w w' g n R V
def uptoI (F : Nat → IV) (j : Nat) : Nat → IV := fun k => if k < j then F k else IV.z
theorem uptoI_put (F : Nat → IV) (j : Nat) (i : Nat) : putI (uptoI F j) j (F j) i = uptoI F (j + 1) i := by
 unfold putI uptoI
 by_cases e : i = j
 ·subst e; rw [if_pos rfl, if_pos (by omega)]
 ·rw [if_neg e]
  by_cases q : i < j
  ·rw [if_pos q, if_pos (by omega)]
  ·rw [if_neg q, if_neg (by omega)]
theorem uptoI_end {F : Nat → IV} {m i : Nat} (h : i < m) : uptoI F m i = F i := if_pos h
end
section
open Go Go.RowKit
structure ElI (w : World) (r : RI) (x : IV) (b : Bool) : Prop where
 vc : ∀ w', Ext w w' → Calls Tryz.prog 116 #[r.v] w' fun e w'' => e = .returned (.bool b) ∧ Ext w' w''
 cn : b = true → CnI w r x
theorem ElI.ext {w w' : World} {r : RI} {x : IV} {b : Bool} (h : ElI w r x b) (e : Ext w w') : ElI w' r x b := ⟨fun w'' e' => h.vc w'' (e.trans e'), fun q => (h.cn q).ext e⟩
theorem ElI.of {w : World} {r : RI} {x : IV} (h : CnI w r x) : ElI w r x true := by
 refine ⟨fun w' e => ?_, fun _ => h⟩
 have k := h.ext e
 have v1 := fun w'' (z : Ext w' w'') => valid_any x.lo.neg r.lo.A (len x.lo.m) r.lo.c x.lo.den (dg x.lo.m) w'' (k.lo.rd.ext z) (fun i _ => dg_lt _ _) (by have := h.el; omega)
 have v2 := fun w'' (z : Ext w' w'') => valid_any x.hi.neg r.hi.A (len x.hi.m) r.hi.c x.hi.den (dg x.hi.m) w'' (k.hi.rd.ext z) (fun i _ => dg_lt _ _) (by have := h.eh; omega)
 rw [vld_ok h.lo.ok] at v1
 rw [vld_ok h.hi.ok] at v2
 have d1 := k.lo.dy; have d2 := k.hi.dy
 rw [h.lo.neg, h.lo.n, h.lo.den] at d1
 rw [h.hi.neg, h.hi.n, h.hi.den] at d2
 have hh := ivalid_both v1 v2 _ (fun w'' z => cmp_any (d1.ext z) (d2.ext z))
 rw [decide_eq_true ((cmp_le h.lo.ok h.hi.ok).2 h.le)] at hh
 show Calls _ _ #[iv r.lo.neg r.lo.A r.lo.n r.lo.c r.lo.den r.hi.neg r.hi.A r.hi.n r.hi.c r.hi.den] _ _
 rw [h.lo.neg, h.lo.n, h.lo.den, h.hi.neg, h.hi.n, h.hi.den]
 exact hh
end
section
open Go Go.RowKit
attribute [local go_sem ↓] Go.wp_at_zero Go.wp_at_succ
def leK (r : RI) : Bool := decide ((r.lo.n : Int) ≤ 140) && (decide ((r.hi.n : Int) ≤ 140) && (decide (r.lo.den ≤ 9000) && decide (r.hi.den ≤ 9000)))
def leI (n : Nat) (R : Nat → RI) : Bool := allN n (fun i => leK (R i)) && decide (n ≤ 100)
set_option maxRecDepth 100000 in
set_option maxHeartbeats 4000000 in
theorem Lean_any {w : World} {A : Option Addr} {n c : Nat} {R : Nat → RI} (r : RnI w A n R) (hn : n ≤ maxLen) : Calls Tryz.prog 13 #[.slice A n c] w fun e w' => e = .returned (.bool (leI n R)) ∧ Ext w w' := by
 unfold maxLen at hn
 have R' := Lib.hid r; clear r
 obtain ⟨v, hv⟩ : ∃ v, leI n R = v := ⟨_, rfl⟩
 have HV := Lib.hid hv
 rw [hv]
 clear hv
 go_enter Tryz.func13, Tryz.ntmps13
 go_wp2
 go_loopw [7] (fun s wr => ∃ j : Nat, j ≤ n ∧ s = I j ∧ Ext w wr ∧ Hid (∀ i, i < j → leK (R i) = true)) (fun s _ => n - (intOf s).toNat)
 case atStart => exact ⟨0, Nat.zero_le _, rfl, Ext.refl _, fun i hi => absurd hi (by omega)⟩
 case round =>
  obtain ⟨j, hj, rfl, hx, HG⟩ := hrel
  by_cases hlt : j < n
  ·obtain ⟨bs, os, rfl, hbs, hcs⟩ := R'.out.ext hx (by omega)
   obtain ⟨x0, x1, x2, x3, x4, x5⟩ := hcs j hlt
   have hlt' : (j : Int) < (n : Int) := by omega
   clear hcs
   have HF : Hid (leK (R j) = false → v = false) := fun h => by
    rw [← HV.out]; unfold leI
    rw [show allN n (fun i => leK (R i)) = false from allN_false.2 ⟨j, hlt, h⟩]; rfl
   have HG2 : Hid (leK (R j) = true → ∀ i, i < j + 1 → leK (R i) = true) := fun h i hi => by
    by_cases e : i = j
    ·subst e; exact h
    ·exact HG.out i (by omega)
   obtain ⟨rj, hrj⟩ : ∃ rj, R j = rj := ⟨_, rfl⟩
   rw [hrj] at HF HG2 x0 x1 x2 x3 x4 x5
   clear hrj
   obtain ⟨⟨n1, A1, k1, c1, d1⟩, ⟨n2, A2, k2, c2, d2⟩⟩ := rj
   simp only at x0 x1 x2 x3 x4 x5
   have key : leK ⟨⟨n1, A1, k1, c1, d1⟩, ⟨n2, A2, k2, c2, d2⟩⟩ = (decide ((k1 : Int) ≤ 140) && (decide ((k2 : Int) ≤ 140) && (decide (d1 ≤ 9000) && decide (d2 ≤ 9000)))) := rfl
   rw [key] at HF HG2
   clear key
   by_cases p1 : (140 : Int) < (k1 : Int)
   ·have p1' : decide ((140 : Int) < (k1 : Int)) = true := decide_eq_true p1
    obtain rfl : v = false := HF.out (by simp only [Bool.and_eq_false_iff, decide_eq_false_iff_not]; omega)
    clear HF HG2 HV
    go_wp2
    go_ret
    exact ⟨by first | rfl | simp, hx.trans (Ext.alloc wr (.cells #[.bool n1, .slice A1 k1 c1, I d1, .bool n2, .slice A2 k2 c2, I d2] 58))⟩
   have p1' : decide ((140 : Int) < (k1 : Int)) = false := decide_eq_false p1
   by_cases p2 : (140 : Int) < (k2 : Int)
   ·have p2' : decide ((140 : Int) < (k2 : Int)) = true := decide_eq_true p2
    obtain rfl : v = false := HF.out (by simp only [Bool.and_eq_false_iff, decide_eq_false_iff_not]; omega)
    clear HF HG2 HV
    go_wp2
    go_ret
    exact ⟨by first | rfl | simp, hx.trans (Ext.alloc wr (.cells #[.bool n1, .slice A1 k1 c1, I d1, .bool n2, .slice A2 k2 c2, I d2] 58))⟩
   have p2' : decide ((140 : Int) < (k2 : Int)) = false := decide_eq_false p2
   by_cases p3 : (9000 : Int) < d1
   ·have p3' : decide ((9000 : Int) < d1) = true := decide_eq_true p3
    obtain rfl : v = false := HF.out (by simp only [Bool.and_eq_false_iff, decide_eq_false_iff_not]; omega)
    clear HF HG2 HV
    go_wp2
    go_ret
    exact ⟨by first | rfl | simp, hx.trans (Ext.alloc wr (.cells #[.bool n1, .slice A1 k1 c1, I d1, .bool n2, .slice A2 k2 c2, I d2] 58))⟩
   have p3' : decide ((9000 : Int) < d1) = false := decide_eq_false p3
   by_cases p4 : (9000 : Int) < d2
   ·have p4' : decide ((9000 : Int) < d2) = true := decide_eq_true p4
    obtain rfl : v = false := HF.out (by simp only [Bool.and_eq_false_iff, decide_eq_false_iff_not]; omega)
    clear HF HG2 HV
    go_wp2
    go_ret
    exact ⟨by first | rfl | simp, hx.trans (Ext.alloc wr (.cells #[.bool n1, .slice A1 k1 c1, I d1, .bool n2, .slice A2 k2 c2, I d2] 58))⟩
   have p4' : decide ((9000 : Int) < d2) = false := decide_eq_false p4
   have HG3 := Lib.hid (HG2.out (by simp only [Bool.and_eq_true, decide_eq_true_eq]; omega))
   clear HF HG2
   go_wp2
   go_roundw
   case rel => exact ⟨j + 1, by omega, by go_num, hx.trans (Ext.alloc wr (.cells #[.bool n1, .slice A1 k1 c1, I d1, .bool n2, .slice A2 k2 c2, I d2] 58)), HG3⟩
   case measure => simp [intOf]; omega
  ·obtain rfl : j = n := by omega
   have HE : Hid (decide ((j : Int) ≤ 100) = v) := by
    show _ = _
    rw [← HV.out]; unfold leI
    rw [allN_iff.2 HG.out, Bool.true_and]
    exact decide_eq_decide.2 (by omega)
   have HE1 := HE.out
   go_wp2
   go_ret
   exact ⟨by first | rfl | (rw [HE1]; rfl) | (simp [HE1]; done), hx⟩
end
section
open Go.ChangeShapes Go.WideShapes Go.ChangeAt Go.RowKit
structure StsI (w : World) (A : Option Addr) (n : Nat) (R : Nat → RI) (F G : Nat → Nat → Nat) : Prop where
 rn : RnI w A n R
 hn : n ≤ maxLen
 r1 : ∀ i, i < n → Rd w (R i).lo.A (R i).lo.n (F i)
 o1 : ∀ i, i < n → SlOk (R i).lo.A (R i).lo.n (R i).lo.c
 b1 : ∀ i, i < n → ∀ j, j < (R i).lo.n → F i j < 4294967296
 r2 : ∀ i, i < n → Rd w (R i).hi.A (R i).hi.n (G i)
 o2 : ∀ i, i < n → SlOk (R i).hi.A (R i).hi.n (R i).hi.c
 b2 : ∀ i, i < n → ∀ j, j < (R i).hi.n → G i j < 4294967296
theorem StsI.ext {w w' : World} {A : Option Addr} {n : Nat} {R : Nat → RI} {F G : Nat → Nat → Nat} (h : StsI w A n R F G) (e : Ext w w') : StsI w' A n R F G :=
 ⟨h.rn.ext e, h.hn, fun i hi => (h.r1 i hi).ext e, h.o1, h.b1, fun i hi => (h.r2 i hi).ext e, h.o2, h.b2⟩
def ivS (R : Nat → RI) (F G : Nat → Nat → Nat) (i : Nat) : IV := ⟨nrA (R i).lo.neg (R i).lo.n (F i) (R i).lo.den, nrA (R i).hi.neg (R i).hi.n (G i) (R i).hi.den⟩
def ivO (R : Nat → RI) (F G : Nat → Nat → Nat) (i : Nat) : Bool := ivB (R i).lo.neg (R i).lo.n (F i) (R i).lo.den (R i).hi.neg (R i).hi.n (G i) (R i).hi.den
structure ElR (w : World) (r : RI) (x : IV) (b : Bool) : Prop extends ElI w r x b where
 rv : ∀ w', Ext w w' → Calls Tryz.prog 61 #[r.v] w' fun e w'' => e = .returned (.bool b) ∧ Ext w' w''
theorem ElR.ext {w w' : World} {r : RI} {x : IV} {b : Bool} (h : ElR w r x b) (e : Ext w w') : ElR w' r x b := ⟨h.toElI.ext e, fun w'' e' => h.rv w'' (e.trans e')⟩
theorem elr_any {w : World} {r : RI} {f g : Nat → Nat} (r1 : Rd w r.lo.A r.lo.n f) (o1 : SlOk r.lo.A r.lo.n r.lo.c) (b1 : ∀ j, j < r.lo.n → f j < 4294967296) (k1 : r.lo.n ≤ 1048576)
  (r2 : Rd w r.hi.A r.hi.n g) (o2 : SlOk r.hi.A r.hi.n r.hi.c) (b2 : ∀ j, j < r.hi.n → g j < 4294967296) (k2 : r.hi.n ≤ 1048576) :
  ElR w r ⟨nrA r.lo.neg r.lo.n f r.lo.den, nrA r.hi.neg r.hi.n g r.hi.den⟩ (ivB r.lo.neg r.lo.n f r.lo.den r.hi.neg r.hi.n g r.hi.den) := by
 refine ⟨⟨fun w' e => ivalid_any r1 o1 b1 (by omega) r2 o2 b2 (by omega) w' e, fun h => ?_⟩, fun w' e => rivalid_any r1 o1 b1 k1 r2 o2 b2 k2 w' e⟩
 unfold ivB at h
 rw [Bool.and_eq_true, Bool.and_eq_true, decide_eq_true_eq] at h
 obtain ⟨h1, h2, h3⟩ := h
 have da : Dy w r.lo.neg r.lo.A r.lo.n r.lo.c r.lo.den _ _ _ := Dy.any r1 o1 b1 (by omega)
 have db : Dy w r.hi.neg r.hi.A r.hi.n r.hi.c r.hi.den _ _ _ := Dy.any r2 o2 b2 (by omega)
 have ra' := da.rd; have sa' := da.sl; have rb' := db.rd; have sb' := db.sl
 rw [if_pos h1] at ra' sa'
 rw [if_pos h1] at sa'
 rw [if_pos h2] at rb' sb'
 rw [if_pos h2] at sb'
 obtain ⟨p1, p2, p3⟩ := nrA_t b1 h1
 obtain ⟨q1, q2, q3⟩ := nrA_t b2 h2
 have l1 := nrA_len (neg := r.lo.neg) (den := r.lo.den) b1 k1
 have l2 := nrA_len (neg := r.hi.neg) (den := r.hi.den) b2 k2
 exact ⟨⟨by unfold cnR; rw [p1, p2, p3], ra', sa', da.wf, Nat.le_trans l1 (by decide)⟩, ⟨by unfold cnR; rw [q1, q2, q3], rb', sb', db.wf, Nat.le_trans l2 (by decide)⟩, l1, l2, (cmp_le da.wf db.wf).1 h3⟩
theorem lea_t {n : Nat} {R : Nat → RI} (h : leI n R = true) : n ≤ 100 ∧ ∀ i, i < n → (R i).lo.n ≤ 140 ∧ (R i).hi.n ≤ 140 := by
 unfold leI at h
 rw [Bool.and_eq_true, decide_eq_true_eq] at h
 refine ⟨h.2, fun i hi => ?_⟩
 have := allN_iff.1 h.1 i hi
 unfold leK at this
 simp only [Bool.and_eq_true, decide_eq_true_eq] at this
 omega
theorem StsI.el {w : World} {A : Option Addr} {n : Nat} {R : Nat → RI} {F G : Nat → Nat → Nat} (h : StsI w A n R F G) (hl : leI n R = true) : n ≤ 100 ∧ ∀ i, i < n → ElR w (R i) (ivS R F G i) (ivO R F G i) := by
 obtain ⟨h1, h2⟩ := lea_t hl
 exact ⟨h1, fun i hi => elr_any (h.r1 i hi) (h.o1 i hi) (h.b1 i hi) (by have := (h2 i hi).1; omega) (h.r2 i hi) (h.o2 i hi) (h.b2 i hi) (by have := (h2 i hi).2; omega)⟩
section
variable {H : Type} {enc : TypeId × Value → H} {w : World} {base : Nat} {held : Bool}
set_option maxRecDepth 100000 in
theorem dy_cells {m : Nat} {cs : List Value} {y : DataW H × List MemPlace} (h : DataW.trod enc Tryz.prog w base (fun _ => true) held m 56 cs = some y) :
  ∃ (neg : Bool) (A : Option Addr) (n c : Nat) (den : Int) (f : Nat → Nat), cs = [.bool neg, .slice A n c, I den] ∧ Rd w A n f ∧ SlOk A n c ∧ (∀ i, i < n → f i < 4294967296) := by
 obtain ⟨xs, n0, _, _, hl, hlen, hf⟩ := DataW.trod_struct Tryz.underlying56 h
 have h3 : cs.length = 3 := by rw [hl]; kernel_rfl
 match xs, hlen with
 | [y0, y1, y2], _ =>
  match cs, h3 with
  | [c0, c1, c2], _ =>
   have k0 : Tryz.prog.cellsOf 4 = 1 := by kernel_rfl
   have k1 : Tryz.prog.cellsOf 54 = 1 := by kernel_rfl
   have k2 : Tryz.prog.cellsOf 3 = 1 := by kernel_rfl
   have e0 : DataW.trod enc Tryz.prog w base (fun _ => true) held n0 4 (([c0, c1, c2].drop 0).take (Tryz.prog.cellsOf 4)) = some y0 := hf 0 _ rfl
   have e1 : DataW.trod enc Tryz.prog w base (fun _ => true) held n0 54 (([c0, c1, c2].drop 1).take (Tryz.prog.cellsOf 54)) = some y1 := hf 1 _ rfl
   have e2 : DataW.trod enc Tryz.prog w base (fun _ => true) held n0 3 (([c0, c1, c2].drop 2).take (Tryz.prog.cellsOf 3)) = some y2 := hf 2 _ rfl
   rw [k0] at e0
   rw [k1] at e1
   rw [k2] at e2
   obtain ⟨neg, h0, _⟩ := DataW.trod_bool Tryz.underlying4 e0
   obtain ⟨A, n, c, f, h1, ok, rd, hb⟩ := word_slice Tryz.underlying54 Tryz.underlying123 (by kernel_rfl) e1
   obtain ⟨den, h2, _, _⟩ := DataW.trod_int Tryz.underlying3 e2
   cases h0; cases h1; cases h2
   exact ⟨neg, A, n, c, den, f, rfl, rd, ok, hb⟩
set_option maxRecDepth 100000 in
theorem itv_cells {m : Nat} {cs : List Value} {y : DataW H × List MemPlace} (h : DataW.trod enc Tryz.prog w base (fun _ => true) held m 58 cs = some y) :
  ∃ (r : RI) (f g : Nat → Nat), cs = [.bool r.lo.neg, .slice r.lo.A r.lo.n r.lo.c, I r.lo.den, .bool r.hi.neg, .slice r.hi.A r.hi.n r.hi.c, I r.hi.den] ∧ (Rd w r.lo.A r.lo.n f ∧ SlOk r.lo.A r.lo.n r.lo.c ∧ ∀ i, i < r.lo.n → f i < 4294967296) ∧
   Rd w r.hi.A r.hi.n g ∧ SlOk r.hi.A r.hi.n r.hi.c ∧ ∀ i, i < r.hi.n → g i < 4294967296 := by
 obtain ⟨xs, n0, _, _, hl, hlen, hf⟩ := DataW.trod_struct Tryz.underlying58 h
 have h6 : cs.length = 6 := by rw [hl]; kernel_rfl
 match xs, hlen with
 | [y0, y1], _ =>
  match cs, h6 with
  | [c0, c1, c2, c3, c4, c5], _ =>
   have k0 : Tryz.prog.cellsOf 56 = 3 := by kernel_rfl
   have e0 : DataW.trod enc Tryz.prog w base (fun _ => true) held n0 56 (([c0, c1, c2, c3, c4, c5].drop 0).take (Tryz.prog.cellsOf 56)) = some y0 := hf 0 _ rfl
   have e1 : DataW.trod enc Tryz.prog w base (fun _ => true) held n0 56 (([c0, c1, c2, c3, c4, c5].drop 3).take (Tryz.prog.cellsOf 56)) = some y1 := hf 1 _ rfl
   rw [k0] at e0 e1
   obtain ⟨neg, A, n, c, den, f, h0, rd, ok, hb⟩ := dy_cells e0
   obtain ⟨neg', A', n', c', den', f', h1, rd', ok', hb'⟩ := dy_cells e1
   cases h0; cases h1
   exact ⟨⟨⟨neg, A, n, c, den⟩, ⟨neg', A', n', c', den'⟩⟩, f, f', rfl, ⟨rd, ok, hb⟩, rd', ok', hb'⟩
theorem ivs_slice {fuel : Nat} {cs : List Value} {x : DataW H × List MemPlace} (h1 : DataW.trod enc Tryz.prog w base (fun _ => true) held fuel 27 cs = some x) :
  ∃ (A : Option Addr) (n c : Nat) (R : Nat → RI) (F G : Nat → Nat → Nat), cs = [.slice A n c] ∧ StsI w A n R F G := by
 obtain ⟨A, L, c, e1, hn, _, hx⟩ := rows_slice Tryz.underlying27 (k := 6) (by kernel_rfl) (by omega) h1
 subst e1
 rcases Nat.eq_zero_or_pos L with h0 | h0
 ·exact ⟨_, _, _, fun _ => RI.z, fun _ _ => 0, fun _ _ => 0, rfl, ⟨fun h => by omega, hn, fun i hi => by omega, fun i hi => by omega, fun i hi => by omega, fun i hi => by omega, fun i hi => by omega, fun i hi => by omega⟩⟩
 ·obtain ⟨b, o, ea, hb, hr⟩ := hx h0
  have : ∀ i, ∃ q : RI × (Nat → Nat) × (Nat → Nat), i < L → (w.cell? ⟨b, o + i * 6, none⟩ = some (.bool q.1.lo.neg) ∧ w.cell? ⟨b, o + i * 6 + 1, none⟩ = some (.slice q.1.lo.A q.1.lo.n q.1.lo.c) ∧ w.cell? ⟨b, o + i * 6 + 2, none⟩ = some (I q.1.lo.den) ∧
    w.cell? ⟨b, o + i * 6 + 3, none⟩ = some (.bool q.1.hi.neg) ∧ w.cell? ⟨b, o + i * 6 + 4, none⟩ = some (.slice q.1.hi.A q.1.hi.n q.1.hi.c) ∧ w.cell? ⟨b, o + i * 6 + 5, none⟩ = some (I q.1.hi.den)) ∧
    (Rd w q.1.lo.A q.1.lo.n q.2.1 ∧ SlOk q.1.lo.A q.1.lo.n q.1.lo.c ∧ ∀ j, j < q.1.lo.n → q.2.1 j < 4294967296) ∧ Rd w q.1.hi.A q.1.hi.n q.2.2 ∧ SlOk q.1.hi.A q.1.hi.n q.1.hi.c ∧ ∀ j, j < q.1.hi.n → q.2.2 j < 4294967296 := fun i => by
   by_cases hi : i < L
   ·obtain ⟨cs', y, m', hl', hc', ht'⟩ := hr i hi
    obtain ⟨r, f, g, rfl, h2, h3⟩ := itv_cells ht'
    exact ⟨(r, f, g), fun _ => ⟨⟨hc' 0 (by omega), hc' 1 (by omega), hc' 2 (by omega), hc' 3 (by omega), hc' 4 (by omega), hc' 5 (by omega)⟩, h2, h3⟩⟩
   ·exact ⟨(RI.z, fun _ => 0, fun _ => 0), fun h => absurd h hi⟩
  exact ⟨_, _, _, fun i => (Classical.choose (this i)).1, fun i => (Classical.choose (this i)).2.1, fun i => (Classical.choose (this i)).2.2, rfl,
   ⟨fun _ => ⟨b, o, ea, hb, fun i hi => (Classical.choose_spec (this i) hi).1⟩, hn, fun i hi => (Classical.choose_spec (this i) hi).2.1.1, fun i hi => (Classical.choose_spec (this i) hi).2.1.2.1, fun i hi => (Classical.choose_spec (this i) hi).2.1.2.2,
    fun i hi => (Classical.choose_spec (this i) hi).2.2.1, fun i hi => (Classical.choose_spec (this i) hi).2.2.2.1, fun i hi => (Classical.choose_spec (this i) hi).2.2.2.2⟩⟩
set_option maxRecDepth 100000 in
theorem open_ivs {w' : World} {b0 : Nat} {v : Value} {d : DataW H} {p : List MemPlace}
  (hv : Value.okWide Tryz.prog w' .any b0 27 v) (h : DataW.Trod enc Tryz.prog w base (fun _ => true) held 27 v d p) :
  ∃ (A : Option Addr) (n c : Nat) (R : Nat → RI) (F G : Nat → Nat → Nat), v = .slice A n c ∧ StsI w A n R F G := by
 obtain ⟨a, L, cap, rfl⟩ := okWide_slice Tryz.underlying27 hv
 obtain ⟨fuel, h1⟩ := h
 obtain ⟨A, n, c, R, F, G, e1, st⟩ := ivs_slice h1
 have e2 : [Value.slice a L cap] = [Value.slice A n c] := by simpa [Value.cells] using e1
 simp only [List.cons.injEq, and_true, Value.slice.injEq] at e2
 obtain ⟨rfl, rfl, rfl⟩ := e2
 exact ⟨_, _, _, R, F, G, rfl, st⟩
end
end
end Go.Proofs.YtgnngldlgcdnfaaGreatDoor
