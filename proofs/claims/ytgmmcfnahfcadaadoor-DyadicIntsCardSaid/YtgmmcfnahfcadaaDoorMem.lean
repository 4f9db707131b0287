/- Memory: slices that read as words, and blocks of the call's own. -/
import Derived.Test.YtgmmcfnahfcadaaDoorNum
import Derived.Test.YtgmmcfnahfcadaaDoorBigc
namespace Go.Proofs.YtgmmcfnahfcadaaDoor
open Go.RowKit

abbrev U4 (n : Nat) : Value := .int .u32 n
abbrev U8 (n : Nat) : Value := .int .u64 n

/-- The first n words behind A are those of f. -/
def Rd (w : World) (A : Option Addr) (n : Nat) (f : Nat → Nat) : Prop :=
  0 < n → ∃ b o, A = some ⟨b, o, none⟩ ∧ b < w.heap.size ∧ ∀ i, i < n → w.cell? ⟨b, o + i, none⟩ = some (U4 (f i))
theorem Rd.none_ {w : World} {A : Option Addr} {f : Nat → Nat} : Rd w A 0 f := fun h => absurd h (by omega)
theorem Rd.ext {w w' : World} {A : Option Addr} {n : Nat} {f : Nat → Nat} (h : Rd w A n f) (e : Ext w w') : Rd w' A n f := fun hn => by
  obtain ⟨b, o, rfl, hb, hc⟩ := h hn
  exact ⟨b, o, rfl, Nat.lt_of_lt_of_le hb e.size, fun i hi => (e.old.1 _ _ hb).trans (hc i hi)⟩
theorem Rd.congr {w : World} {A : Option Addr} {n : Nat} {f g : Nat → Nat} (h : Rd w A n f) (e : ∀ i, i < n → f i = g i) : Rd w A n g := fun hn => by
  obtain ⟨b, o, rfl, hb, hc⟩ := h hn
  exact ⟨b, o, rfl, hb, fun i hi => by rw [hc i hi, e i hi]⟩
theorem Rd.le {w : World} {A : Option Addr} {n n' : Nat} {f : Nat → Nat} (h : Rd w A n f) (e : n' ≤ n) : Rd w A n' f := fun hn => by
  obtain ⟨b, o, rfl, hb, hc⟩ := h (by omega)
  exact ⟨b, o, rfl, hb, fun i hi => hc i (by omega)⟩
theorem Rd.at_ {w : World} {A : Option Addr} {n k : Nat} {f : Nat → Nat} (h : Rd w A n f) (hk : k < n) : ∃ b o, A = some ⟨b, o, none⟩ ∧ b < w.heap.size ∧ w.cell? ⟨b, o + k, none⟩ = some (U4 (f k)) := by
  obtain ⟨b, o, rfl, hb, hc⟩ := h (by omega)
  exact ⟨b, o, rfl, hb, hc k hk⟩

/-- The block g holds the words of f, and may be written. -/
def Own (w : World) (g n : Nat) (f : Nat → Nat) : Prop := g < w.heap.size ∧ ∀ i, i < n → w.cell? ⟨g, i, none⟩ = some (U4 (f i)) ∧ w.frozen? ⟨g, i, none⟩ = false
theorem Own.rd {w : World} {g n : Nat} {f : Nat → Nat} (h : Own w g n f) : Rd w (some ⟨g, 0, none⟩) n f := fun _ => ⟨g, 0, rfl, h.1, fun i hi => by rw [Nat.zero_add]; exact (h.2 i hi).1⟩
theorem Own.rd_from {w : World} {g n k m : Nat} {f : Nat → Nat} (h : Own w g n f) (hk : k + m ≤ n) : Rd w (some ⟨g, k, none⟩) m (fun i => f (k + i)) := fun _ => ⟨g, k, rfl, h.1, fun i hi => (h.2 (k + i) (by omega)).1⟩
theorem Own.ext {w w' : World} {g n : Nat} {f : Nat → Nat} (h : Own w g n f) (e : Ext w w') : Own w' g n f :=
  ⟨Nat.lt_of_lt_of_le h.1 e.size, fun i hi => ⟨(e.old.1 _ _ h.1).trans (h.2 i hi).1, (e.old.2 _ _ h.1).trans (h.2 i hi).2⟩⟩
theorem Own.congr {w : World} {g n : Nat} {f f' : Nat → Nat} (h : Own w g n f) (e : ∀ i, i < n → f i = f' i) : Own w g n f' :=
  ⟨h.1, fun i hi => by rw [← e i hi]; exact h.2 i hi⟩
theorem Own.le {w : World} {g n n' : Nat} {f : Nat → Nat} (h : Own w g n f) (e : n' ≤ n) : Own w g n' f := ⟨h.1, fun i hi => h.2 i (by omega)⟩
theorem Own.at_ {w : World} {g n k : Nat} {f : Nat → Nat} (h : Own w g n f) (hk : k < n) : w.cell? ⟨g, k, none⟩ = some (U4 (f k)) ∧ w.frozen? ⟨g, k, none⟩ = false := h.2 k hk
theorem size_setCell (w : World) (p : Addr) (v : Value) : (w.setCell p v).heap.size = w.heap.size := by simp
theorem Own.set {w : World} {g n k : Nat} {f : Nat → Nat} (h : Own w g n f) (hk : k < n) (v : Nat) : Own (w.setCell ⟨g, k, none⟩ (U4 v)) g n (upd f k v) := by
  refine ⟨by rw [size_setCell]; exact h.1, fun i hi => ?_⟩
  obtain ⟨h1, h2⟩ := h.2 i hi
  obtain ⟨h3, h4⟩ := h.2 k hk
  by_cases e : i = k
  · subst e
    rw [upd_same]
    exact ⟨World.cell?_setCell_same _ _ _ h1, by simp [h2]⟩
  · rw [upd_ne _ e]
    constructor
    · rw [World.cell?_setCell_other _ _ _ _ (by intro e2; injection e2; omega)]; exact h1
    · simp [h2]

end Go.Proofs.YtgmmcfnahfcadaaDoor
