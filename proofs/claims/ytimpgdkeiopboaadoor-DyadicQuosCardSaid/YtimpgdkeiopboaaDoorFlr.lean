/- Floor and Ceil: their errors; Ceil; the reference's Floor. -/
import Derived.Test.YtimpgdkeiopboaaDoorAwk
import Derived.Test.YtimpgdkeiopboaaDoorDyl
import Derived.Test.YtimpgdkeiopboaaDoorRefn
import Derived.Test.YtimpgdkeiopboaaDoorRefh
import Derived.Test.YtimpgdkeiopboaaDoorMref
namespace Go.Proofs.YtimpgdkeiopboaaDoor
open Go.RowKit

/-- A zero, and an error. -/
def ZErr (k : Int) (w : World) (e : Ending) (w' : World) : Prop := ∃ A c, e = .returned (.tuple #[dv false A 0 c 0, .iface 46 (I k)]) ∧ Ext w w'

set_option maxRecDepth 100000 in
set_option maxHeartbeats 1000000 in
theorem floor_err {w : World} {neg : Bool} {A : Option Addr} {n c : Nat} {den : Int} (s : Int) (hs : s < 0 ∨ 65536 < s) : Calls Tryd.prog 15 #[dv neg A n c den, I s] w (DyErr 3 w) := by
  go_enter Tryd.func15, Tryd.ntmps15
  go_wp2_with (go_at_call 19; refine (isGrid_f _ _ hs).mono ?_; rintro e w' ⟨rfl, rfl⟩)
  exact bodyPost_ret (v := .tuple #[dv false none 0 0 0, .iface 46 (I 3)]) (by simp [results, Tryd.results15, go_sem]) rfl ⟨rfl, by repeat (first | exact (Ext.alloc _ _).trans (Ext.alloc _ _) | refine Ext.set ?_ (by omega) _)⟩

/-- One box more. -/
theorem bx_new2 {w w1 : World} {o : Obj} {v0 v1 v2 : Value} {t : TypeId} (hx : Ext ((w.alloc o).alloc (.cells #[v0, v1, v2] t)) w1) : Bx w1 (w.heap.size + 1) v0 v1 v2 := by
  have s2 := Bx.new (w.alloc o) v0 v1 v2 t
  rw [show (w.alloc o).heap.size = w.heap.size + 1 by simp] at s2
  exact s2.ext hx

/-- What the reference's functions with a number of an error return. -/
def DyNum (d : DV) (w : World) (e : Ending) (w' : World) : Prop := ∃ A c, e = .returned (.tuple #[dv d.neg A (len d.m) c d.den, I 0]) ∧ On w' w.heap.size A (len d.m) c (dg d.m) ∧ Ext w w'
theorem DyNum.end3 {d : DV} {w W w2 : World} {A : Option Addr} {c g : Nat} {e : Ending} {u0 u1 u2 : Value} (he : e = .returned (.tuple #[dv d.neg A (len d.m) c d.den, I 0])) (hon : On w2 W.heap.size A (len d.m) c (dg d.m)) (hx : Ext w w2) (hW : w.heap.size ≤ W.heap.size) (hg : w.heap.size ≤ g) (hg2 : g < W.heap.size) :
    DyNum d w e (((w2.setCell ⟨g, 0, none⟩ u0).setCell ⟨g, 1, none⟩ u1).setCell ⟨g, 2, none⟩ u2) :=
  ⟨A, c, he, (hon.set3 hg2 _ _ _).mono hW, ext_set3 hx hg _ _ _⟩
theorem mkD_self {d : DV} (h : d.ok) : mkD d.neg d.m d.den = d := DV.uniq (mkD_ok _ _ _) h (by rw [q_mkD _ _ h.2.1]; rfl)
theorem plus_one (A : Option Addr) (m ca g cb : Nat) (w : World) (ha : Rd w A (len m) (dg m)) (hg : g < w.heap.size) (hc : w.cell? ⟨g, 0, none⟩ = some (U4 1)) (hL : len m ≤ 1073741824) :
    Calls Tryd.prog 29 #[.slice A (len m) ca, .slice (some ⟨g, 0, none⟩) 1 cb] w (NatRes (m + 1) w) := by
  have h := rplus_any A (some ⟨g, 0, none⟩) m 1 ca cb w ha (by
    rw [len_one]
    intro _
    refine ⟨g, 0, rfl, hg, fun i hi => ?_⟩
    obtain rfl : i = 0 := by omega
    rw [show dg 1 0 = 1 by rw [dg_zero]]
    exact hc) hL (by rw [len_one]; decide)
  rw [len_one] at h
  exact h
theorem cut_odd {m j : Nat} (h : m % 2 = 1) (hj : 0 < j) : decide (m % 2 ^ j ≠ 0) = true := by
  refine decide_eq_true fun e => ?_
  have : 2 ∣ 2 ^ j := ⟨2 ^ (j - 1), by rw [← Nat.pow_succ']; congr 1; omega⟩
  have h2 := Nat.mod_mod_of_dvd m this
  rw [e] at h2
  omega

end Go.Proofs.YtimpgdkeiopboaaDoor
