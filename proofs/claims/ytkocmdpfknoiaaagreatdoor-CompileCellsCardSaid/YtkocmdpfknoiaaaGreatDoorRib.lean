/- Lists of ints: how they lie in memory, appended to, compared; error values. -/
import Derived.Test.YtkocmdpfknoiaaaGreatDoorExt
import Derived.Test.YtkocmdpfknoiaaaGreatDoorRows
import Derived.Deep.AppendLies
import Derived.Deep.RegionHeld3
import Derived.Deep.RegionWith
import Derived.Deep.DeepCutAuto
import Derived.Laws.OwnMore
import Derived.Laws.MakeOwn
import Derived.OwnWalk
import Derived.Shelf.Abstract
import Derived.Deep.OwnRows
import Derived.Lib.Hide
namespace Go.Proofs.YtkocmdpfknoiaaaGreatDoor
open Go Go.RowKit

def errv (k : Int) : Value := if k = 0 then .nilIface else .iface 94 (I k)
theorem errv_z : errv 0 = .nilIface := rfl
theorem errv_n {k : Int} (h : k ≠ 0) : errv k = .iface 94 (I k) := if_neg h
/-- The first n numbers behind A are those of f. -/
def Ri (w : World) (A : Option Addr) (n : Nat) (f : Nat → Int) : Prop :=
  0 < n → ∃ b o, A = some ⟨b, o, none⟩ ∧ b < w.heap.size ∧ ∀ i, i < n → w.cell? ⟨b, o + i, none⟩ = some (I (f i))
theorem Ri.none_ {w : World} {A : Option Addr} {f : Nat → Int} : Ri w A 0 f := fun h => absurd h (by omega)
theorem Ri.ext {w w' : World} {A : Option Addr} {n : Nat} {f : Nat → Int} (h : Ri w A n f) (e : Ext w w') : Ri w' A n f := fun hn => by
  obtain ⟨b, o, rfl, hb, hc⟩ := h hn
  exact ⟨b, o, rfl, Nat.lt_of_lt_of_le hb e.size, fun i hi => (e.old.1 _ _ hb).trans (hc i hi)⟩
theorem Ri.congr {w : World} {A : Option Addr} {n : Nat} {f g : Nat → Int} (h : Ri w A n f) (e : ∀ i, i < n → f i = g i) : Ri w A n g := fun hn => by
  obtain ⟨b, o, rfl, hb, hc⟩ := h hn
  exact ⟨b, o, rfl, hb, fun i hi => by rw [hc i hi, e i hi]⟩
theorem Ri.at_ {w : World} {b o n k : Nat} {f : Nat → Int} (h : Ri w (some ⟨b, o, none⟩) n f) (hk : k < n) : b < w.heap.size ∧ w.cell? ⟨b, o + k, none⟩ = some (I (f k)) := by
  obtain ⟨b, o, e, hb, hc⟩ := h (by omega)
  cases e; exact ⟨hb, hc k hk⟩
/-- The first n bools of block g. -/
def Rb (w : World) (g n : Nat) (P : Nat → Bool) : Prop := g < w.heap.size ∧ ∀ i, i < n → w.cell? ⟨g, i, none⟩ = some (.bool (P i))
theorem Rb.ext {w w' : World} {g n : Nat} {P : Nat → Bool} (h : Rb w g n P) (e : Ext w w') : Rb w' g n P := ⟨Nat.lt_of_lt_of_le h.1 e.size, fun i hi => (e.old.1 _ _ h.1).trans (h.2 i hi)⟩
/-- The slice of a block's sources. -/
def SrP (n : Nat) (f : Nat → Int) (w : World) (e : Ending) (w' : World) : Prop := ∃ A' c', e = .returned (.slice A' n c') ∧ Ri w' A' n f ∧ (A' = none → c' = 0) ∧ Ext w w'
theorem infoI : (Tryz.prog.info? 3).map (fun i => (i.zero, i.size, i.bytes)) = some (some (I 0), 1, 8) := by kernel_rfl
theorem infoB : (Tryz.prog.info? 4).map (fun i => (i.zero, i.size, i.bytes)) = some (some (.bool false), 1, 1) := by kernel_rfl
theorem rowIs_made' (w : World) (z : Value) (n : Nat) (t : TypeId) {g : Nat} (hg : g = w.heap.size) : (w.alloc (.cells (madeCells #[z] n) t)).rowIs g t n (fun _ => z) := hg ▸ World.rowIs_made w z n t
theorem _root_.Go.World.rowIs.ext {w w' : World} {b : Nat} {t : TypeId} {n : Nat} {f : Nat → Value} (h : w.rowIs b t n f) (x : Ext w w') : w'.rowIs b t n f := h.of_block (x.block b h.lt)
theorem rb_of_row {w : World} {g n : Nat} {P : Nat → Bool} (h : w.rowIs g 4 n (fun i => .bool (P i))) : Rb w g n P := ⟨h.lt, fun _ hi => h.cell hi⟩
theorem ext_gr {w w' : World} (e : Ext w w') : w.grownBy w' none := ⟨e.os, e.tape, e.output, e.size, fun k hk _ => e.block k hk⟩
theorem news1' {w : World} {ad : Addr} {v : Value} (h : w.cell? ad = some v) : ∀ j u, [v][j]? = some u → w.cell? (ad.add j) = some u := by
  intro j u hj
  cases j with
  | zero => simp at hj; subst hj; exact h
  | succ j => simp at hj
set_option maxRecDepth 100000 in
set_option maxHeartbeats 1000000 in
theorem ints_true {w : World} {A B : Option Addr} {n c e : Nat} {X : Nat → Int} (hn : n ≤ 1000) (ra : Ri w A n X) (rb : Ri w B n X) :
    Calls Tryz.prog 32 #[.slice A n c, .slice B n e] w fun e' w' => e' = .returned (.bool true) ∧ Ext w w' := by
  by_cases h0 : n = 0
  · subst h0
    clear ra rb
    go_enter Tryz.func32, Tryz.ntmps32
    go_wp2_with fail
    go_loopw [13] (fun s wr => s = I 0 ∧ Ext w wr) (fun _ _ => 0)
    case atStart => exact ⟨rfl, Ext.refl _⟩
    case round =>
      obtain ⟨rfl, hb⟩ := hrel
      go_wp2_with fail
      go_ret
      exact ⟨rfl, hb⟩
  · obtain ⟨ba, oa, rfl, hba, ca⟩ := ra (by omega)
    obtain ⟨bb, ob, rfl, hbb, cb⟩ := rb (by omega)
    have CA := Lib.hid ca; clear ca ra
    have CB := Lib.hid cb; clear cb rb
    have HZ := Lib.hid h0; clear h0
    go_enter Tryz.func32, Tryz.ntmps32
    go_wp2_with fail
    go_loopw [13] (fun s wr => ∃ j : Nat, j ≤ n ∧ s = I j ∧ Ext w wr) (fun s _ => n - (intOf s).toNat)
    case atStart => exact ⟨0, Nat.zero_le _, rfl, Ext.refl _⟩
    case round =>
      obtain ⟨j, hj, rfl, hb⟩ := hrel
      obtain ⟨hc, hf⟩ := hb.old
      by_cases hlt : j < n
      · have xa := (hb.old.1 _ _ hba).trans (CA.out j hlt)
        have xb := (hb.old.1 _ _ hbb).trans (CB.out j hlt)
        clear hc hf
        go_wp2_with fail
        go_quiet (fail)
        go_wp2_with fail
        go_roundw
        case rel => exact ⟨j + 1, by omega, by go_num, (by repeat (first | exact Ext.refl _ | assumption | exact Ext.alloc _ _ | refine Ext.trans ?_ (by assumption) | refine Ext.trans ?_ (Ext.alloc _ _) | refine Ext.trans ?_ (Ext.drewN _ _) | refine Ext.trans ?_ (Ext.drew _)))⟩
        case measure => simp [intOf]; omega
      · obtain rfl : j = n := by omega
        go_wp2_with fail
        go_ret
        exact ⟨rfl, hb⟩
set_option maxHeartbeats 400000 in
theorem num_err (k : Int) (w : World) :
    Calls Tryz.prog 11 #[.iface 94 (I k)] w fun e w' => e = .returned (I k) ∧ Ext w w' := by
  have ta := run_assert_int (P := Tryz.prog) (xT := 33) (v := I k) (w := w) Tryz.underlying94
  go_enter Tryz.func11, Tryz.ntmps11
  go_wp2
  go_ret
  exact ⟨rfl, Ext.refl _⟩
set_option maxHeartbeats 400000 in
theorem num_nil (w : World) :
    Calls Tryz.prog 11 #[.nilIface] w fun e w' => e = .returned (I 0) ∧ Ext w w' := by
  go_enter Tryz.func11, Tryz.ntmps11
  go_wp2
  go_ret
  exact ⟨rfl, Ext.refl _⟩
theorem num_any (k : Int) (w : World) :
    Calls Tryz.prog 11 #[errv k] w fun e w' => e = .returned (I k) ∧ Ext w w' := by
  by_cases h : k = 0
  · subst h; exact num_nil w
  · rw [errv_n h]; exact num_err k w
theorem run_assert_nil (w : World) : (Instr.typeAssert .nilIface 33 94 true).run Tryz.prog w = .ok (.tuple #[I 0, .bool false]) w := by
  simp [Instr.typeAssert, Tryz.zeroValue94]
def ivs (F : Nat → Int) : Nat → List Value
  | 0 => []
  | n + 1 => ivs F n ++ [I (F n)]
theorem ivs_len (F : Nat → Int) (n : Nat) : (ivs F n).length = n := by
  induction n with
  | zero => rfl
  | succ n ih => show (ivs F n ++ [_]).length = _; rw [List.length_append, ih]; rfl
theorem ivs_get {F : Nat → Int} {n k : Nat} (hk : k < n) : (ivs F n)[k]? = some (I (F k)) := by
  induction n with
  | zero => omega
  | succ n ih =>
    show (ivs F n ++ [_])[k]? = _
    by_cases e : k = n
    · subst e; rw [List.getElem?_append_right (by rw [ivs_len]; exact Nat.le_refl _), ivs_len]; simp
    · rw [List.getElem?_append_left (by rw [ivs_len]; omega)]; exact ih (by omega)
def OwI (w : World) (base : Nat) (A : Option Addr) (c : Nat) (F : Nat → Int) (n : Nat) : Prop := w.ownsRow base 3 1 (.slice A n c) n (ivs F n)
theorem OwI.nil (w : World) (base : Nat) (F : Nat → Int) : OwI w base none 0 F 0 := World.ownsRow_nil _ _ _ _
theorem OwI.lt {w : World} {base c n : Nat} {A : Option Addr} {F : Nat → Int} (h : OwI w base A c F n) : ∀ k, (Value.slice A n c).ownBlock = some k → base ≤ k ∧ k < w.heap.size := World.ownsRow.lt h
theorem OwI.ext {w w' : World} {base c n : Nat} {A : Option Addr} {F : Nat → Int} (h : OwI w base A c F n) (e : Ext w w') : OwI w' base A c F n :=
  World.ownsRow.kept h (ext_gr e) (by cases (Value.slice A n c).ownBlock <;> simp)
theorem OwI.ri {w : World} {base c n : Nat} {A : Option Addr} {F : Nat → Int} (h : OwI w base A c F n) : Ri w A n F := fun h0 => by
  have h' := h
  obtain ⟨_, ⟨e, hz⟩ | ⟨g, cap, cur, e, _⟩⟩ := h'
  · omega
  · injection e with e1 e2 e3
    subst e1
    refine ⟨g, 0, rfl, (h.lt g rfl).2, fun k hk => ?_⟩
    rw [Nat.zero_add, World.ownsRow.cellAt h k (by omega)]; exact ivs_get hk
theorem OwI.blk {w : World} {base c n : Nat} {A : Option Addr} {F : Nat → Int} (h : OwI w base A c F n) : ∀ b o, A = some ⟨b, o, none⟩ → base ≤ b ∧ b < w.heap.size := fun b o hA => by
  have h' := h
  obtain ⟨_, ⟨e, _⟩ | ⟨g, cap, cur, e, _⟩⟩ := h'
  · injection e with e1; rw [hA] at e1; cases e1
  · injection e with e1 e2 e3
    rw [hA] at e1
    injection e1 with e1
    injection e1 with e1 e4
    subst e1; subst e4; subst hA
    exact h.lt b rfl
theorem growI_ext {W w w' : World} {base c n : Nat} {A : Option Addr} {F : Nat → Int} (e : Ext W w) (h : OwI w base A c F n) (hb : W.heap.size ≤ base) (hg : w.grownBy w' (Value.slice A n c).ownBlock) : Ext W w' :=
  Below.grown e hg e.size (fun k hk => Nat.le_trans hb (h.lt k hk).1)
theorem appI {ops : Array Oper} {rest : List Oper} {o : Oper} {a : Act} {w : World} {Q : Exit → Act → World → Prop} (hgd : o.guard = none) (s x : Operand) (ho : o.op = .call { callee := .builtin .append, args := #[s, x], argTypes := #[24, 24] })
    (base : Nat) (A : Option Addr) (c : Nat) (F : Nat → Int) (n : Nat) (hs : a.eval s = .slice A n c) (hown : OwI w base A c F n) (ad : Addr) (cx : Nat) (hx : a.eval x = .slice (some ad) 1 cx) (hv : w.cell? ad = some (I (F n)))
    (hn : n ≤ 1099511627) (hbase : base ≤ w.heap.size)
    (h : ∀ g cap w', OwI w' base (some ⟨g, 0, none⟩) cap F (n + 1) → w.grownBy w' (Value.slice A n c).ownBlock → ((Value.slice A n c).ownBlock = some g ∨ g = w.heap.size) → g < w'.heap.size →
      wpList Tryz.prog ops Q rest (a.put o.dst (.slice (some ⟨g, 0, none⟩) (n + 1) cap)) w') : wpList Tryz.prog ops Q (o :: rest) a w := by
  obtain ⟨i, hi, hz, h1, hb⟩ := info_parts infoI
  exact wpList_append_lies w hgd s x _ ho base 3 i _ 1 8 Tryz.underlying24 hi hz h1 hb rfl (by omega) _ n _ hs hown ad 1 cx [I (F n)] hx rfl (news1' hv) (by simp [Value.oneCell']) (by omega) (by unfold maxLen; omega) (by omega) hbase w.heap.size rfl h
/-- The row of such a list, which may be longer. -/
theorem OwI.row {w : World} {base c n : Nat} {A : Option Addr} {F : Nat → Int} (h : OwI w base A c F n) (h0 : 0 < n) : ∃ g N f, A = some ⟨g, 0, none⟩ ∧ base ≤ g ∧ n ≤ N ∧ w.rowIs g 3 N f ∧ ∀ i, i < n → f i = I (F i) := by
  have h' := h
  obtain ⟨_, ⟨e, hz⟩ | ⟨g, cap, cur, e, hb, hg, hnc, hcm, hcs, ht⟩⟩ := h'
  · omega
  · injection e with e1 e2 e3
    subst e1; subst e3
    refine ⟨g, cur.size, fun i => cur.getD i (I 0), rfl, hb, by omega, ⟨cur, hg, rfl, fun i hi => ?_⟩, fun i hi => ?_⟩
    · simp [Array.getD_eq_getD_getElem?, Array.getElem?_eq_getElem hi]
    · have hc := World.ownsRow.cellAt h i (by omega)
      rw [ivs_get hi] at hc
      have hk := cell_of_row w g i cur 3 (0, 0) hg
      rw [hc] at hk
      show cur.getD i (I 0) = _
      rw [Array.getD_eq_getD_getElem?, ← hk]; rfl
end Go.Proofs.YtkocmdpfknoiaaaGreatDoor
