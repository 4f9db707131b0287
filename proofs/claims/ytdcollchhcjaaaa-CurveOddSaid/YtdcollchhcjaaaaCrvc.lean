/- Curves: how they lie in memory; what is wrong with them. -/
import Derived.Test.YtdcollchhcjaaaaCrvb
import Derived.Test.YtdcollchhcjaaaaRows
import Derived.Deep.AppendLies
import Derived.Deep.RegionHeld3
import Derived.Deep.RegionWith
import Derived.Deep.DeepCutAuto
import Derived.Laws.OwnMore
import Derived.Laws.MakeOwn
import Derived.OwnWalk
namespace Go.Proofs.Ytdcollchhcjaaaa
open Go.RowKit

abbrev cv (A : Option Addr) (n c : Nat) (B : Option Addr) (m e : Nat) : Value := .agg #[.slice A n c, .slice B m e]
def errv (k : Int) : Value := if k = 0 then .nilIface else .iface 51 (I k)
theorem errv_z : errv 0 = .nilIface := rfl
theorem errv_n {k : Int} (h : k ≠ 0) : errv k = .iface 51 (I k) := if_neg h

/-- The first n numbers behind A are those of f. -/
def Ri (w : World) (A : Option Addr) (n : Nat) (f : Nat → Int) : Prop :=
  0 < n → ∃ b o, A = some ⟨b, o, none⟩ ∧ b < w.heap.size ∧ ∀ i, i < n → w.cell? ⟨b, o + i, none⟩ = some (I (f i))
theorem Ri.none_ {w : World} {A : Option Addr} {f : Nat → Int} : Ri w A 0 f := fun h => absurd h (by omega)
theorem Ri.ext {w w' : World} {A : Option Addr} {n : Nat} {f : Nat → Int} (h : Ri w A n f) (e : Ext w w') : Ri w' A n f := fun hn => by
  obtain ⟨b, o, rfl, hb, hc⟩ := h hn
  exact ⟨b, o, rfl, Nat.lt_of_lt_of_le hb e.size, fun i hi => (e.old.1 _ _ hb).trans (hc i hi)⟩
theorem Ri.congr {w : World} {A : Option Addr} {n : Nat} {f g : Nat → Int} (h : Ri w A n f) (e : ∀ i, i < n → f i = g i) : Ri w A n g := fun hn => by
  obtain ⟨b, o, rfl, hb, hc⟩ := h hn
  exact ⟨b, o, rfl, hb, fun i hi => by rw [hc i hi, e i hi]⟩
theorem Ri.at_ {w : World} {b o n k : Nat} {f : Nat → Int} (h : Ri w (some ⟨b, o, none⟩) n f) (hk : k < n) : b < w.heap.size ∧ w.cell? ⟨b, o + k, none⟩ = some (I (f k)) := by
  obtain ⟨b, o, e, hb, hc⟩ := h (by omega)
  cases e; exact ⟨hb, hc k hk⟩

/-- A box of two cells. -/
def B2 (w : World) (g : Nat) (v0 v1 : Value) : Prop := (w.cell? ⟨g, 0, none⟩ = some v0 ∧ w.cell? ⟨g, 1, none⟩ = some v1) ∧ ∀ i, w.frozen? ⟨g, i, none⟩ = false
theorem B2.lt {w : World} {g : Nat} {v0 v1 : Value} (h : B2 w g v0 v1) : g < w.heap.size := World.block_lt_of_cell? w _ h.1.1
theorem B2.ext {w w' : World} {g : Nat} {v0 v1 : Value} (h : B2 w g v0 v1) (e : Ext w w') : B2 w' g v0 v1 := by
  have hl := h.lt
  obtain ⟨⟨h0, h1⟩, hf⟩ := h
  exact ⟨⟨(e.old.1 _ _ hl).trans h0, (e.old.1 _ _ hl).trans h1⟩, fun i => (e.old.2 _ _ hl).trans (hf i)⟩
theorem B2.new (w : World) (v0 v1 : Value) (t : TypeId) : B2 (w.alloc (.cells #[v0, v1] t)) w.heap.size v0 v1 :=
  ⟨⟨by go_simp, by go_simp⟩, fun i => by go_simp⟩

set_option maxHeartbeats 400000 in
theorem outside_any (x : Int) (w : World) : Calls Try.prog 35 #[I x] w fun e w' => e = .returned (.bool (out30 x)) ∧ Ext w w' := by
  by_cases h1 : x < -1073741824
  · have H := Lib.hid (show out30 x = true by simp [out30, h1])
    go_enter Try.func35, Try.ntmps35
    go_wp2
    go_ret
    exact ⟨by rw [H.out]; rfl, Ext.refl _⟩
  · by_cases h2 : 1073741824 < x
    · have H := Lib.hid (show out30 x = true by simp [out30, h2])
      go_enter Try.func35, Try.ntmps35
      go_wp2
      go_ret
      exact ⟨by rw [H.out]; rfl, Ext.refl _⟩
    · have H := Lib.hid (show out30 x = false by simp [out30, h1, h2])
      go_enter Try.func35, Try.ntmps35
      go_wp2
      go_ret
      exact ⟨by rw [H.out]; rfl, Ext.refl _⟩

end Go.Proofs.Ytdcollchhcjaaaa
