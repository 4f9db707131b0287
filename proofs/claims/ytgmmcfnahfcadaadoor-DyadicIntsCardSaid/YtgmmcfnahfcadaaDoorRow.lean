/- Rows of words that the call itself has made. -/
import Derived.Test.YtgmmcfnahfcadaaDoorNatb
import Derived.Laws.OwnMore
import Derived.Laws.MakeOwn
import Derived.OwnWalk
namespace Go.Proofs.YtgmmcfnahfcadaaDoor
open Go.RowKit

def wl (f : Nat → Nat) (n : Nat) : List Value := (List.range n).map fun i => U4 (f i)
theorem wl_len (f : Nat → Nat) (n : Nat) : (wl f n).length = n := by unfold wl; simp
theorem wl_get (f : Nat → Nat) {n i : Nat} (h : i < n) : (wl f n)[i]? = some (U4 (f i)) := by unfold wl; simp [h]
theorem wl_snoc (f : Nat → Nat) (n x : Nat) : wl f n ++ [U4 x] = wl (upd f n x) (n + 1) := by
  unfold wl
  rw [List.range_succ, List.map_append]
  congr 1
  · apply List.map_congr_left
    intro i hi
    have : i < n := by simpa using hi
    rw [upd_ne f (by omega)]
  · simp [upd_same]
theorem wl_set (f : Nat → Nat) {n k : Nat} (x : Nat) : (wl f n).set k (U4 x) = wl (upd f k x) n := by
  apply List.ext_getElem?
  intro i
  rw [List.getElem?_set]
  by_cases hi : i < n
  · rw [wl_get f hi, wl_get (upd f k x) hi]
    by_cases e : k = i
    · subst e; rw [if_pos rfl, if_pos (by rw [wl_len]; exact hi), upd_same]
    · rw [if_neg e, upd_ne f (by omega)]
  · rw [List.getElem?_eq_none (l := wl (upd f k x) n) (by rw [wl_len]; omega)]
    split
    · simp [wl_len]; omega
    · exact List.getElem?_eq_none (by rw [wl_len]; omega)
theorem wl_congr {f g : Nat → Nat} {n : Nat} (h : ∀ i, i < n → f i = g i) : wl f n = wl g n := by
  unfold wl; apply List.map_congr_left; intro i hi; rw [h i (by simpa using hi)]

def Row (w : World) (base g n c : Nat) (f : Nat → Nat) : Prop := w.ownsRow base 74 1 (.slice (some ⟨g, 0, none⟩) n c) n (wl f n)
section
variable {w w' : World} {base g n c k : Nat} {f : Nat → Nat}
theorem Row.lt (h : Row w base g n c f) : base ≤ g ∧ g < w.heap.size := World.ownsRow.lt h g rfl
theorem Row.cap (h : Row w base g n c f) : n ≤ c ∧ c ≤ maxLen := by
  obtain ⟨_, ⟨h', _⟩ | ⟨g', cap', cur, h', _, _, a, b, _⟩⟩ := h
  · simp at h'
  · simp only [Value.slice.injEq, Option.some.injEq, Addr.mk.injEq, and_true, true_and] at h'
    obtain ⟨rfl, rfl⟩ := h'
    exact ⟨a, b⟩
theorem Row.cell (h : Row w base g n c f) (hk : k < n) : w.cell? ⟨g, k, none⟩ = some (U4 (f k)) := by
  have := World.ownsRow.cellAt h k (by omega)
  rw [this, wl_get _ hk]
theorem Row.frozen (h : Row w base g n c f) (k : Nat) : w.frozen? ⟨g, k, none⟩ = false := World.ownsRow.frozenAt h k
theorem Row.rd (h : Row w base g n c f) : Rd w (some ⟨g, 0, none⟩) n f := fun _ => ⟨g, 0, rfl, h.lt.2, fun i hi => by rw [Nat.zero_add]; exact h.cell hi⟩
theorem Row.rd_from {j m : Nat} (h : Row w base g n c f) (hk : j + m ≤ n) : Rd w (some ⟨g, j, none⟩) m (fun i => f (j + i)) := fun _ => ⟨g, j, rfl, h.lt.2, fun i hi => h.cell (by omega)⟩
theorem Row.set (h : Row w base g n c f) (k x : Nat) : Row (w.setCell ⟨g, k, none⟩ (U4 x)) base g n c (upd f k x) := by
  have := (World.ownsRow.stored h k (U4 x)).1
  rw [wl_set] at this
  exact this
theorem Row.set_fr (h : Row w base g n c f) (k x : Nat) : w.grownBy (w.setCell ⟨g, k, none⟩ (U4 x)) (some g) := (World.ownsRow.stored h k (U4 x)).2
theorem Row.grown {row : Option Nat} (h : Row w base g n c f) (hg : w.grownBy w' row) (hne : some g ≠ row) : Row w' base g n c f := World.ownsRow.kept h hg (.inr hne)
theorem Row.congr {f' : Nat → Nat} (h : Row w base g n c f) (e : ∀ i, i < n → f i = f' i) : Row w base g n c f' := by
  unfold Row at *; rw [← wl_congr e]; exact h
theorem Row.drew (h : Row w base g n c f) : Row w.drew base g n c f := h
theorem Row.drewN (h : Row w base g n c f) (m : Nat) : Row (w.drewN m) base g n c f := h
theorem fr_of_ext (h : Ext w w') : w.grownBy w' none := ⟨h.os, h.tape, h.output, h.size, fun k hk _ => h.block k hk⟩
theorem Row.ext (h : Row w base g n c f) (e : Ext w w') : Row w' base g n c f := h.grown (fr_of_ext e) (by simp)
end
theorem fr_refl (w : World) (r : Option Nat) : w.grownBy w r := ⟨rfl, rfl, rfl, Nat.le_refl _, fun _ _ _ => rfl⟩
theorem fr_trans {a b c : World} {r : Option Nat} (h : a.grownBy b r) (k : b.grownBy c r) : a.grownBy c r :=
  ⟨k.os.trans h.os, k.tape.trans h.tape, k.output.trans h.output, Nat.le_trans h.size k.size, fun i hi hr => (k.block i (Nat.lt_of_lt_of_le hi h.size) hr).trans (h.block i hi hr)⟩
theorem fr_ext {a b : World} (r : Option Nat) (h : Ext a b) : a.grownBy b r := ⟨h.os, h.tape, h.output, h.size, fun k hk _ => h.block k hk⟩
/-- What only a block of one's own is written to. -/
theorem ext_fr {a b c : World} {g : Nat} (h : Ext a b) (k : b.grownBy c (some g)) (hg : a.heap.size ≤ g) : Ext a c :=
  Below.grown h k h.size (fun j hj => by injection hj with hj; omega)
theorem ext_fr_none {a b c : World} (h : Ext a b) (k : b.grownBy c none) : Ext a c := Below.grown h k h.size (fun j hj => by cases hj)
theorem Rd.fr {w w' : World} {A : Option Addr} {n g : Nat} {f : Nat → Nat} (h : Rd w A n f) (e : w.grownBy w' (some g)) (hne : ∀ a, A = some a → a.block ≠ g) : Rd w' A n f := fun hn => by
  obtain ⟨b, o, rfl, hb, hc⟩ := h hn
  have := hne _ rfl
  exact ⟨b, o, rfl, Nat.lt_of_lt_of_le hb e.size, fun i hi => e.cell (hc i hi) (by simpa using this)⟩
theorem Rd.block_ne {w : World} {A : Option Addr} {n g : Nat} {f : Nat → Nat} (h : Rd w A n f) (hn : 0 < n) (hg : w.heap.size ≤ g) : ∀ a, A = some a → a.block ≠ g := by
  rintro a rfl
  obtain ⟨b, o, e, hb, _⟩ := h hn
  injection e with e; subst e; simp; omega

theorem infoU : (Tryd.prog.info? 74).map (fun i => (i.zero, i.size, i.bytes)) = some (some (.int .u32 0), 1, 4) := by kernel_rfl
/-- A new row of zeros. -/
theorem run_make_row (w : World) (n : Nat) (hn : n ≤ 1099511627776) : ∃ w', (Instr.makeSlice 22 (.int .i64 (n : Int)) (.int .i64 (n : Int))).run Tryd.prog w = .ok (.slice (some ⟨w.heap.size, 0, none⟩) n n) w' ∧
    Row w' w.heap.size w.heap.size n n (fun _ => 0) ∧ Ext w w' := by
  obtain ⟨i, hi, hz, h1, hb⟩ := info_parts infoU
  obtain ⟨w', hr, ho, hg⟩ := run_make_full (P := Tryd.prog) w w.heap.size 22 74 i (.int .u32 0) 1 Tryd.underlying22 hi hz h1 .i64 .i64 n (by rw [hb]; omega) (by unfold maxLen; omega) (Nat.le_refl _)
  refine ⟨w', hr, ?_, ext_fr_none (Ext.refl w) hg⟩
  unfold Row
  have e : (madeCells (Value.int IntKind.u32 0).cells (n * 1)).toList = wl (fun _ => 0) n := by
    rw [show (Value.int IntKind.u32 0).cells = #[.int .u32 0] from rfl, toList_madeCells_one, Nat.mul_one]
    apply List.ext_getElem?
    intro j
    by_cases hj : j < n
    · rw [wl_get _ hj]; simp [hj]
    · rw [List.getElem?_eq_none (l := wl _ n) (by rw [wl_len]; omega)]; simp; omega
  rw [e] at ho
  exact ho

end Go.Proofs.YtgmmcfnahfcadaaDoor
