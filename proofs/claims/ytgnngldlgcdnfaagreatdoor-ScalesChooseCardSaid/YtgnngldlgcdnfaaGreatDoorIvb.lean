/- Intervals: what functions return, in new memory; boxes of six cells. -/
import Derived.Test.YtgnngldlgcdnfaaGreatDoorExt
import Derived.Test.YtgnngldlgcdnfaaGreatDoorIvr
import Derived.Test.YtgnngldlgcdnfaaGreatDoorIvmn
import Derived.Test.YtgnngldlgcdnfaaGreatDoorDyy
namespace Go.Proofs.YtgnngldlgcdnfaaGreatDoor
open Go.RowKit

/-- Behind a call: the newest two blocks, the newest block. -/
theorem two_new {w w1 : World} {u0 u1 u2 v0 v1 v2 : Value} {t t' : TypeId} (hx : Ext ((w.alloc (.cells #[u0, u1, u2] t)).alloc (.cells #[v0, v1, v2] t')) w1) : Bx w1 w.heap.size u0 u1 u2 ∧ Bx w1 (w.heap.size + 1) v0 v1 v2 := by
  have s1 := ((Bx.new w u0 u1 u2 t).ext (Ext.alloc _ (.cells #[v0, v1, v2] t'))).ext hx
  have s2 := (Bx.new (w.alloc (.cells #[u0, u1, u2] t)) v0 v1 v2 t').ext hx
  rw [show (w.alloc (.cells #[u0, u1, u2] t)).heap.size = w.heap.size + 1 by simp] at s2
  exact ⟨s1, s2⟩
theorem one_new {w w1 : World} {v0 v1 v2 : Value} {t : TypeId} (hx : Ext (w.alloc (.cells #[v0, v1, v2] t)) w1) : Bx w1 w.heap.size v0 v1 v2 := (Bx.new w v0 v1 v2 t).ext hx
theorem two_newd {w w1 : World} {u0 u1 u2 v0 v1 v2 : Value} {t t' : TypeId} (hx : Ext ((w.alloc (.cells #[u0, u1, u2] t)).alloc (.cells #[v0, v1, v2] t')).drew w1) : Bx w1 w.heap.size u0 u1 u2 ∧ Bx w1 (w.heap.size + 1) v0 v1 v2 := two_new ((Ext.drew _).trans hx)
theorem one_newd {w w1 : World} {v0 v1 v2 : Value} {t : TypeId} (hx : Ext (w.alloc (.cells #[v0, v1, v2] t)).drew w1) : Bx w1 w.heap.size v0 v1 v2 := (Bx.new w v0 v1 v2 t).ext ((Ext.drew _).trans hx)

/-- n words behind A, in memory that is not older than the block base. -/
def Fr (w : World) (base : Nat) (A : Option Addr) (n c : Nat) (f : Nat → Nat) : Prop :=
  Rd w A n f ∧ SlOk A n c ∧ (0 < n → ∀ a, A = some a → base ≤ a.block)
theorem Fr.rd {w : World} {base n c : Nat} {A : Option Addr} {f : Nat → Nat} (h : Fr w base A n c f) : Rd w A n f := h.1
theorem Fr.ok {w : World} {base n c : Nat} {A : Option Addr} {f : Nat → Nat} (h : Fr w base A n c f) : SlOk A n c := h.2.1
theorem Fr.ext {w w' : World} {base n c : Nat} {A : Option Addr} {f : Nat → Nat} (h : Fr w base A n c f) (e : Ext w w') : Fr w' base A n c f := ⟨h.1.ext e, h.2.1, h.2.2⟩
theorem Fr.mono {w : World} {base b' n c : Nat} {A : Option Addr} {f : Nat → Nat} (h : Fr w base A n c f) (e : b' ≤ base) : Fr w b' A n c f := ⟨h.1, h.2.1, fun hn a ha => Nat.le_trans e (h.2.2 hn a ha)⟩
theorem On.fr {w : World} {base n c : Nat} {A : Option Addr} {f : Nat → Nat} (h : On w base A n c f) : Fr w base A n c f := by
  refine ⟨h.rd, h.ok, fun _ a ha => ?_⟩
  by_cases hb : base ≤ a.block
  · exact hb
  · exact absurd rfl (h.ne (g := a.block) (by omega) a ha)
theorem Rd.set' {w : World} {A : Option Addr} {n g : Nat} {f : Nat → Nat} (h : Rd w A n f) (hne : 0 < n → ∀ a, A = some a → a.block ≠ g) (i : Nat) (u : Value) : Rd (w.setCell ⟨g, i, none⟩ u) A n f := fun hn =>
  (h.set (hne hn) i u) hn
theorem Fr.set {w : World} {base n c g : Nat} {A : Option Addr} {f : Nat → Nat} (h : Fr w base A n c f) (hg : g < base) (i : Nat) (u : Value) : Fr (w.setCell ⟨g, i, none⟩ u) base A n c f :=
  ⟨h.1.set' (fun hn a ha => by have := h.2.2 hn a ha; omega) i u, h.2.1, h.2.2⟩
theorem Fr.set6 {w : World} {base n c g : Nat} {A : Option Addr} {f : Nat → Nat} (h : Fr w base A n c f) (hg : g < base) (u0 u1 u2 u3 u4 u5 : Value) :
    Fr ((((((w.setCell ⟨g, 0, none⟩ u0).setCell ⟨g, 1, none⟩ u1).setCell ⟨g, 2, none⟩ u2).setCell ⟨g, 3, none⟩ u3).setCell ⟨g, 4, none⟩ u4).setCell ⟨g, 5, none⟩ u5) base A n c f :=
  (((((h.set hg _ _).set hg _ _).set hg _ _).set hg _ _).set hg _ _).set hg _ _

/-- The interval from a to b as a value: its words lie behind A and B. -/
abbrev ivd (a : DV) (A : Option Addr) (c : Nat) (b : DV) (B : Option Addr) (e : Nat) : Value := iv a.neg A (len a.m) c a.den b.neg B (len b.m) e b.den
/-- What a function of intervals returns: the interval from a to b, in new memory. -/
def IvRes (a b : DV) (w : World) (e : Ending) (w' : World) : Prop := ∃ A c B k, e = .returned (ivd a A c b B k) ∧ Fr w' w.heap.size A (len a.m) c (dg a.m) ∧ Fr w' w.heap.size B (len b.m) k (dg b.m) ∧ Ext w w'
theorem IvRes.end6 {a b : DV} {w w2 : World} {A B : Option Addr} {c k g b1 b2 : Nat} {e : Ending} {u0 u1 u2 u3 u4 u5 : Value} (he : e = .returned (ivd a A c b B k)) (ha : Fr w2 b1 A (len a.m) c (dg a.m)) (hb : Fr w2 b2 B (len b.m) k (dg b.m)) (hx : Ext w w2) (hg : w.heap.size ≤ g) (h1 : g < b1) (h2 : g < b2) :
    IvRes a b w e ((((((w2.setCell ⟨g, 0, none⟩ u0).setCell ⟨g, 1, none⟩ u1).setCell ⟨g, 2, none⟩ u2).setCell ⟨g, 3, none⟩ u3).setCell ⟨g, 4, none⟩ u4).setCell ⟨g, 5, none⟩ u5) :=
  ⟨A, c, B, k, he, (ha.set6 h1 _ _ _ _ _ _).mono (by omega), (hb.set6 h2 _ _ _ _ _ _).mono (by omega), ext_set6 hx hg _ _ _ _ _ _⟩

/-- Ends of an interval that functions take. -/
def End (a : DV) : Prop := a.ok ∧ len a.m ≤ 1048576
/-- The argument of these fields counts as the interval from a to b. -/
structure Iw (w : World) (n1 : Bool) (A : Option Addr) (k c : Nat) (d1 : Int) (n2 : Bool) (B : Option Addr) (m e : Nat) (d2 : Int) (a b : DV) (A' : Option Addr) (c' : Nat) (B' : Option Addr) (e' : Nat) : Prop where
  ra : Rd w A' (len a.m) (dg a.m)
  sa : SlOk A' (len a.m) c'
  wa : End a
  rb : Rd w B' (len b.m) (dg b.m)
  sb : SlOk B' (len b.m) e'
  wb : End b
  le : a.q ≤ b.q
  itv : ∀ w', Ext w w' → Calls Tryz.prog 87 #[iv n1 A k c d1 n2 B m e d2] w' (NumRes (ivd a A' c' b B' e') w')
  nrm : ∀ w', Ext w w' → Calls Tryz.prog 79 #[iv n1 A k c d1 n2 B m e d2] w' (NumRes (ivd a A' c' b B' e') w')
theorem Iw.ext {w w' : World} {n1 n2 : Bool} {A B A' B' : Option Addr} {k c m e c' e' : Nat} {d1 d2 : Int} {a b : DV} (h : Iw w n1 A k c d1 n2 B m e d2 a b A' c' B' e') (x : Ext w w') : Iw w' n1 A k c d1 n2 B m e d2 a b A' c' B' e' :=
  ⟨h.ra.ext x, h.sa, h.wa, h.rb.ext x, h.sb, h.wb, h.le, fun w'' y => h.itv w'' (x.trans y), fun w'' y => h.nrm w'' (x.trans y)⟩
theorem Iw.dya {w : World} {n1 n2 : Bool} {A B A' B' : Option Addr} {k c m e c' e' : Nat} {d1 d2 : Int} {a b : DV} (h : Iw w n1 A k c d1 n2 B m e d2 a b A' c' B' e') : Dy w a.neg A' (len a.m) c' a.den a A' c' := Dy.valid h.ra h.sa h.wa.1 (Nat.le_trans h.wa.2 (by decide))
theorem Iw.dyb {w : World} {n1 n2 : Bool} {A B A' B' : Option Addr} {k c m e c' e' : Nat} {d1 d2 : Int} {a b : DV} (h : Iw w n1 A k c d1 n2 B m e d2 a b A' c' B' e') : Dy w b.neg B' (len b.m) e' b.den b B' e' := Dy.valid h.rb h.sb h.wb.1 (Nat.le_trans h.wb.2 (by decide))

/-- Two ends in order make a valid interval. -/
theorem iv_ok {w : World} {a b : DV} {A B : Option Addr} {c e : Nat} (ra : Rd w A (len a.m) (dg a.m)) (sa : SlOk A (len a.m) c) (wa : End a) (rb : Rd w B (len b.m) (dg b.m)) (sb : SlOk B (len b.m) e) (wb : End b) (le : a.q ≤ b.q) :
    Iw w a.neg A (len a.m) c a.den b.neg B (len b.m) e b.den a b A c B e := by
  have da : Dy w a.neg A (len a.m) c a.den a A c := Dy.valid ra sa wa.1 (Nat.le_trans wa.2 (by decide))
  have db : Dy w b.neg B (len b.m) e b.den b B e := Dy.valid rb sb wb.1 (Nat.le_trans wb.2 (by decide))
  refine ⟨ra, sa, wa, rb, sb, wb, le, fun w' x => ?_, fun w' x => ?_⟩
  · refine interval_t (fun w1 y => ?_)
    have v1 := fun w'' (z : Ext w1 w'') => valid_any a.neg A (len a.m) c a.den (dg a.m) w'' (ra.ext ((x.trans y).trans z)) (fun i _ => dg_lt _ _) (Nat.le_trans wa.2 (by decide))
    have v2 := fun w'' (z : Ext w1 w'') => valid_any b.neg B (len b.m) e b.den (dg b.m) w'' (rb.ext ((x.trans y).trans z)) (fun i _ => dg_lt _ _) (Nat.le_trans wb.2 (by decide))
    rw [vld_ok wa.1] at v1
    rw [vld_ok wb.1] at v2
    have h := ivalid_both v1 v2 _ (fun w'' z => cmp_any (da.ext ((x.trans y).trans z)) (db.ext ((x.trans y).trans z)))
    rw [decide_eq_true ((cmp_le wa.1 wb.1).2 le)] at h
    exact h
  · refine norm3_t (fun w1 y => ?_)
    have v1 := fun w'' (z : Ext w1 w'') => rvalid_any a.neg A (len a.m) c a.den (dg a.m) w'' (ra.ext ((x.trans y).trans z)) (fun i _ => dg_lt _ _) (Nat.le_trans wa.2 (by decide))
    have v2 := fun w'' (z : Ext w1 w'') => rvalid_any b.neg B (len b.m) e b.den (dg b.m) w'' (rb.ext ((x.trans y).trans z)) (fun i _ => dg_lt _ _) (Nat.le_trans wb.2 (by decide))
    rw [vld_ok wa.1] at v1
    rw [vld_ok wb.1] at v2
    have h := rivalid_both v1 v2 _ (fun w'' z => rdcmp_any (da.ext ((x.trans y).trans z)) (db.ext ((x.trans y).trans z)) (lim_subE wa.1 wb.1 wa.2 wb.2) (subD_ok _ _))
    rw [decide_eq_true ((cmp_le wa.1 wb.1).2 le)] at h
    exact h
/-- A result counts as itself. -/
theorem IvRes.at_ {w w0 : World} {a b : DV} {A B : Option Addr} {c e bs : Nat} (ha : Fr w bs A (len a.m) c (dg a.m)) (hb : Fr w bs B (len b.m) e (dg b.m)) (wa : End a) (wb : End b) (le : a.q ≤ b.q) (x : Ext w w0) :
    Iw w0 a.neg A (len a.m) c a.den b.neg B (len b.m) e b.den a b A c B e := (iv_ok ha.rd ha.ok wa hb.rd hb.ok wb le).ext x
theorem DV.zero_end : End DV.zero := ⟨DV.zero_ok, by rw [zero_len]; decide⟩
/-- The ends as which an argument counts. -/
def ivL (n1 : Bool) (k : Nat) (f : Nat → Nat) (d1 : Int) (n2 : Bool) (m : Nat) (g : Nat → Nat) (d2 : Int) : DV := if ivB n1 k f d1 n2 m g d2 = true then nrA n1 k f d1 else DV.zero
def ivH (n1 : Bool) (k : Nat) (f : Nat → Nat) (d1 : Int) (n2 : Bool) (m : Nat) (g : Nat → Nat) (d2 : Int) : DV := if ivB n1 k f d1 n2 m g d2 = true then nrA n2 m g d2 else DV.zero
/-- Any argument counts as some interval. -/
theorem Iw.any {w : World} {n1 n2 : Bool} {A B : Option Addr} {k c m e : Nat} {d1 d2 : Int} {f g : Nat → Nat} (ra : Rd w A k f) (oa : SlOk A k c) (ba : ∀ i, i < k → f i < 4294967296) (ka : k ≤ 1048576)
    (rb : Rd w B m g) (ob : SlOk B m e) (bb : ∀ i, i < m → g i < 4294967296) (kb : m ≤ 1048576) :
    Iw w n1 A k c d1 n2 B m e d2 (ivL n1 k f d1 n2 m g d2) (ivH n1 k f d1 n2 m g d2) (if ivB n1 k f d1 n2 m g d2 = true then A else none) (if ivB n1 k f d1 n2 m g d2 = true then c else 0) (if ivB n1 k f d1 n2 m g d2 = true then B else none) (if ivB n1 k f d1 n2 m g d2 = true then e else 0) := by
  have hv := ivalid_any (n1 := n1) (n2 := n2) (d1 := d1) (d2 := d2) ra oa ba (by omega) rb ob bb (by omega)
  have hr := rivalid_any (n1 := n1) (n2 := n2) (d1 := d1) (d2 := d2) ra oa ba ka rb ob bb kb
  unfold ivL ivH
  by_cases h : ivB n1 k f d1 n2 m g d2 = true
  · rw [if_pos h, if_pos h, if_pos h, if_pos h, if_pos h, if_pos h]
    rw [h] at hv hr
    have h' := h
    unfold ivB at h'
    rw [Bool.and_eq_true, Bool.and_eq_true, decide_eq_true_eq] at h'
    obtain ⟨h1, h2, h3⟩ := h'
    have da : Dy w n1 A k c d1 _ _ _ := Dy.any ra oa ba (by omega)
    have db : Dy w n2 B m e d2 _ _ _ := Dy.any rb ob bb (by omega)
    have ra' := da.rd; have sa' := da.sl; have rb' := db.rd; have sb' := db.sl
    rw [if_pos h1] at ra' sa'
    rw [if_pos h1] at sa'
    rw [if_pos h2] at rb' sb'
    rw [if_pos h2] at sb'
    obtain ⟨p1, p2, p3⟩ := nrA_t ba h1
    obtain ⟨q1, q2, q3⟩ := nrA_t bb h2
    have ev : ivd (nrA n1 k f d1) A c (nrA n2 m g d2) B e = iv n1 A k c d1 n2 B m e d2 := by
      show iv _ A _ c _ _ B _ e _ = _
      rw [p1, p2, p3, q1, q2, q3]
    refine ⟨ra', sa', ⟨da.wf, nrA_len ba ka⟩, rb', sb', ⟨db.wf, nrA_len bb kb⟩, (cmp_le da.wf db.wf).1 h3, fun w' x => ?_, fun w' x => ?_⟩
    · rw [ev]; exact interval_t (fun w1 y => hv w1 (x.trans y))
    · rw [ev]; exact norm3_t (fun w1 y => hr w1 (x.trans y))
  · rw [if_neg h, if_neg h, if_neg h, if_neg h, if_neg h, if_neg h]
    rw [Bool.eq_false_iff.2 h] at hv hr
    have z0 : SlOk none (len DV.zero.m) 0 := by rw [zero_len]; exact ⟨Nat.le_refl _, Nat.zero_le _, fun _ => ⟨rfl, rfl⟩⟩
    have z1 : Rd w none (len DV.zero.m) (dg DV.zero.m) := by rw [zero_len]; exact Rd.none_
    have ez : ivd DV.zero none 0 DV.zero none 0 = iv false none 0 0 0 false none 0 0 0 := by
      show iv _ _ (len DV.zero.m) _ _ _ _ (len DV.zero.m) _ _ = _
      rw [zero_len]; rfl
    refine ⟨z1, z0, DV.zero_end, z1, z0, DV.zero_end, by grind, fun w' x => ?_, fun w' x => ?_⟩
    · rw [ez]; exact interval_f (fun w1 y => hv w1 (x.trans y))
    · rw [ez]; exact norm3_f (fun w1 y => hr w1 (x.trans y))

end Go.Proofs.YtgnngldlgcdnfaaGreatDoor
