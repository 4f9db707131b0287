/- Diagrams: isDelay, sources, the block that is listed next, by the code. -/
import Derived.Test.YtgajibdmihdkcaaDoorDge
import Derived.Shelf.Abstract
namespace Go.Proofs.YtgajibdmihdkcaaDoor
open Go.RowKit

/-- A box that holds a diagram. -/
structure Bd (w : World) (g : Nat) (D : Dia) (p : Pl) : Prop where
  c0 : w.cell? ⟨g, 0, none⟩ = some (.slice p.AI D.ni p.cI)
  c1 : w.cell? ⟨g, 1, none⟩ = some (.slice p.AB D.nb p.cB)
  c2 : w.cell? ⟨g, 2, none⟩ = some (.slice p.AO D.no p.cO)
theorem Bd.lt {w : World} {g : Nat} {D : Dia} {p : Pl} (h : Bd w g D p) : g < w.heap.size := World.block_lt_of_cell? w _ h.c0
theorem Bd.ext {w w' : World} {g : Nat} {D : Dia} {p : Pl} (h : Bd w g D p) (e : Ext w w') : Bd w' g D p :=
  ⟨(e.old.1 _ _ h.lt).trans h.c0, (e.old.1 _ _ h.lt).trans h.c1, (e.old.1 _ _ h.lt).trans h.c2⟩
theorem Bd.new (w : World) (D : Dia) (p : Pl) (t : TypeId) : Bd (w.alloc (.cells #[.slice p.AI D.ni p.cI, .slice p.AB D.nb p.cB, .slice p.AO D.no p.cO] t)) w.heap.size D p :=
  ⟨by go_simp, by go_simp, by go_simp⟩
/-- The first n bools of block g. -/
def Rb (w : World) (g n : Nat) (P : Nat → Bool) : Prop := g < w.heap.size ∧ ∀ i, i < n → w.cell? ⟨g, i, none⟩ = some (.bool (P i))
theorem Rb.ext {w w' : World} {g n : Nat} {P : Nat → Bool} (h : Rb w g n P) (e : Ext w w') : Rb w' g n P := ⟨Nat.lt_of_lt_of_le h.1 e.size, fun i hi => (e.old.1 _ _ h.1).trans (h.2 i hi)⟩

set_option maxRecDepth 100000 in
set_option maxHeartbeats 1000000 in
theorem isDelay_any {w : World} {D : Dia} {p : Pl} (d : Dm w D p) (i : Nat) (hi : i < D.nb) : Calls Tryd.prog 61 #[dgv D p, I i] w fun e w' => e = .returned (.bool (isD D i)) ∧ Ext w w' := by
  obtain ⟨b, o, ha, hb, hc⟩ := d.blocks (by omega)
  obtain ⟨x0, _⟩ := hc i hi
  have lb := d.lb; unfold maxLen at lb
  unfold isD dgv
  rw [ha]
  clear ha hc d
  have hlt : (i : Int) < (D.nb : Int) := by omega
  generalize (D.B i).k = k at *
  go_enter Tryd.func61, Tryd.ntmps61
  go_wp2
  go_ret
  exact ⟨rfl, (by repeat (first | exact Ext.refl _ | assumption | exact Ext.alloc _ _ | refine Ext.trans ?_ (by assumption) | refine Ext.trans ?_ (Ext.alloc _ _) | refine Ext.trans ?_ (Ext.drewN _ _) | refine Ext.trans ?_ (Ext.drew _)))⟩

/-- The slice of a block's sources. -/
def SrP (n : Nat) (f : Nat → Int) (w : World) (e : Ending) (w' : World) : Prop := ∃ A' c', e = .returned (.slice A' n c') ∧ Ri w' A' n f ∧ (A' = none → c' = 0) ∧ Ext w w'
set_option maxRecDepth 100000 in
set_option maxHeartbeats 1000000 in
theorem sources_any (k : Int) (A : Option Addr) (n c : Nat) (f : Nat → Int) (vn ve un ue : Int) (w : World) (r : Ri w A n f) (hA : A = none → c = 0) :
    Calls Tryd.prog 64 #[bkv k A n c vn ve un ue] w (SrP (if k = 0 then 0 else n) f w) := by
  have HA0 := Lib.hid hA; clear hA
  by_cases h : k = 0
  · subst h
    have R := Lib.hid r; clear r
    go_enter Tryd.func64, Tryd.ntmps64
    go_wp2
    go_ret
    exact ⟨none, 0, rfl, Ri.none_, fun _ => rfl, (by repeat (first | exact Ext.refl _ | assumption | exact Ext.alloc _ _ | refine Ext.trans ?_ (by assumption) | refine Ext.trans ?_ (Ext.alloc _ _) | refine Ext.trans ?_ (Ext.drewN _ _) | refine Ext.trans ?_ (Ext.drew _)))⟩
  · have R := Lib.hid r; clear r
    have h' : (k == 0) = false := by simpa using h
    rw [if_neg h]
    clear h
    go_enter Tryd.func64, Tryd.ntmps64
    go_wp2
    go_ret
    exact ⟨A, c, rfl, R.out.ext (by repeat (first | exact Ext.refl _ | assumption | exact Ext.alloc _ _ | refine Ext.trans ?_ (by assumption) | refine Ext.trans ?_ (Ext.alloc _ _) | refine Ext.trans ?_ (Ext.drewN _ _) | refine Ext.trans ?_ (Ext.drew _))), HA0.out, (by repeat (first | exact Ext.refl _ | assumption | exact Ext.alloc _ _ | refine Ext.trans ?_ (by assumption) | refine Ext.trans ?_ (Ext.alloc _ _) | refine Ext.trans ?_ (Ext.drewN _ _) | refine Ext.trans ?_ (Ext.drew _)))⟩

set_option maxRecDepth 100000 in
set_option maxHeartbeats 1000000 in
theorem waits_any {w : World} {D : Dia} {p : Pl} {bl bd g c : Nat} {P : Nat → Bool} (d : Dm w D p) (hd : Bd w bd D p) (hl : w.cell? ⟨bl, 0, none⟩ = some (.slice (some ⟨g, 0, none⟩) D.nb c)) (hp : Rb w g D.nb P) (i : Nat) (hi : i < D.nb) :
    Calls Tryd.prog 76 (#[I i] ++ #[.pointer (some ⟨bl, 0, none⟩), .pointer (some ⟨bd, 0, none⟩)]) w fun e w' => e = .returned (.bool (!P i && !isD D i)) ∧ Ext w w' := by
  have x := hp.2 i hi
  have HD := Lib.hid (isDelay_any d i hi)
  obtain ⟨c0, c1, c2⟩ := hd
  have hlt : (i : Int) < (D.nb : Int) := by omega
  clear hp d
  cases hP : P i with
  | true =>
    rw [hP] at x
    clear hP
    go_enter Tryd.func76, Tryd.ntmps76
    go_wp2_with fail
    go_ret
    exact ⟨rfl, Ext.refl _⟩
  | false =>
    rw [hP] at x
    clear hP
    generalize isD D i = q at *
    go_enter Tryd.func76, Tryd.ntmps76
    go_wp2_with (go_at_call 61; refine HD.out.mono ?_; rintro e w1 ⟨rfl, hb1⟩)
    go_ret
    exact ⟨rfl, hb1⟩

set_option maxRecDepth 100000 in
set_option maxHeartbeats 1000000 in
theorem indexFunc_any (g : FuncId) (cb : Array Value) (A : Option Addr) (n c : Nat) (f : Nat → Int) (q : Nat → Bool) (w : World) (r : Ri w A n f) (hn : n ≤ maxLen) (eg : ∀ args w, (callFunc g args).run Tryd.prog w = .ok (.enter g args) w)
    (hf0 : ∀ (i : Nat) (w' : World), i < n → Ext w w' → Calls Tryd.prog g (#[I (f i)] ++ cb) w' fun e w'' => e = .returned (.bool (q i)) ∧ Ext w' w'') :
    Calls Tryd.prog 88 #[.slice A n c, .func (.func g) #[] cb] w fun e w' => e = .returned (I (fstI n q)) ∧ Ext w w' := by
  unfold maxLen at hn
  have HF := Lib.hid hf0; clear hf0
  have R := Lib.hid r; clear r
  go_enter Tryd.func88, Tryd.ntmps88
  go_wp2
  go_loopw [8] (fun s wr => ∃ j : Nat, j ≤ n ∧ s = I j ∧ Ext w wr ∧ Hid (∀ i, i < j → q i = false)) (fun s _ => n - (intOf s).toNat)
  case atStart => exact ⟨0, Nat.zero_le _, rfl, Ext.refl _, fun i hi => absurd hi (by omega)⟩
  case round =>
    obtain ⟨j, hj, rfl, hb, HG⟩ := hrel
    by_cases hlt : j < n
    · obtain ⟨b, o, rfl, hba, ca⟩ := R.out (by omega)
      have xa := (hb.old.1 _ _ hba).trans (ca j hlt)
      clear ca
      have hc0 := HF.out j _ hlt hb
      generalize f j = y at xa hc0
      have HC := Lib.hid hc0; clear hc0
      cases hq : q j with
      | true =>
        rw [hq] at HC
        have HR := Lib.hid (fstI_hit HG.out hlt hq)
        clear hq
        go_wp2_with (go_at_fn g; refine HC.out.mono ?_; rintro e w1 ⟨rfl, hb1⟩; replace hb := Ext.trans hb hb1; clear hb1)
        go_ret
        exact ⟨by rw [HR.out]; rfl, hb⟩
      | false =>
        rw [hq] at HC
        have HG2 : Hid (∀ i, i < j + 1 → q i = false) := fun i hi => by
          by_cases h : i = j
          · subst h; exact hq
          · exact HG.out i (by omega)
        clear hq
        go_wp2_with (go_at_fn g; refine HC.out.mono ?_; rintro e w1 ⟨rfl, hb1⟩; replace hb := Ext.trans hb hb1; clear hb1)
        go_roundw
        case rel => exact ⟨j + 1, by omega, by go_num, hb, HG2⟩
        case measure => simp [intOf]; omega
    · obtain rfl : j = n := by omega
      have HR := Lib.hid (fstI_none HG.out)
      go_wp2
      go_ret
      exact ⟨by rw [HR.out]; rfl, hb⟩
/-- Does q hold at one of the first n places? -/
def anyN (n : Nat) (q : Nat → Bool) : Bool := decide (0 ≤ fstI n q)
theorem anyN_all (n : Nat) (q : Nat → Bool) : allN n q = !anyN n (fun i => !q i) := by
  unfold allN anyN
  rcases fstI_cases n (fun i => !q i) with ⟨h, _⟩ | ⟨j, _, h, _⟩
  · rw [h]; rfl
  · rw [h]
    simp
set_option maxRecDepth 100000 in
set_option maxHeartbeats 1000000 in
theorem containsFunc_any (g : FuncId) (cb : Array Value) (A : Option Addr) (n c : Nat) (f : Nat → Int) (q : Nat → Bool) (w : World) (r : Ri w A n f) (hn : n ≤ maxLen) (eg : ∀ args w, (callFunc g args).run Tryd.prog w = .ok (.enter g args) w)
    (hf0 : ∀ (i : Nat) (w' : World), i < n → Ext w w' → Calls Tryd.prog g (#[I (f i)] ++ cb) w' fun e w'' => e = .returned (.bool (q i)) ∧ Ext w' w'') :
    Calls Tryd.prog 77 #[.slice A n c, .func (.func g) #[] cb] w fun e w' => e = .returned (.bool (anyN n q)) ∧ Ext w w' := by
  have HC := Lib.hid (indexFunc_any g cb A n c f q w r hn eg hf0)
  clear hf0 r eg
  unfold anyN
  generalize fstI n q = z at *
  by_cases h : 0 ≤ z
  all_goals
    go_enter Tryd.func77, Tryd.ntmps77
    go_wp2_with (go_at_call 88; refine HC.out.mono ?_; rintro e w1 ⟨rfl, hb1⟩)
    go_ret
    exact ⟨by simp [h], hb1⟩
end Go.Proofs.YtgajibdmihdkcaaDoor
