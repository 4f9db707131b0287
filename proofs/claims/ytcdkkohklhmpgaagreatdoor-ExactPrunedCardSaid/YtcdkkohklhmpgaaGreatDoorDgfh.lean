/- Diagrams: isDelay, sources, the block that is listed next, by the code. -/
import Derived.Test.YtcdkkohklhmpgaaGreatDoorDge
import Derived.Shelf.Abstract
import Derived.Deep.OwnRows
namespace Go.Proofs.YtcdkkohklhmpgaaGreatDoor

/-! ### Dgf -/
section
open Go.RowKit

/-- A box that holds a diagram. -/
structure Bd (w : World) (g : Nat) (D : Dia) (p : Pl) : Prop where
  c0 : w.cell? ⟨g, 0, none⟩ = some (.slice p.AI D.ni p.cI)
  c1 : w.cell? ⟨g, 1, none⟩ = some (.slice p.AB D.nb p.cB)
  c2 : w.cell? ⟨g, 2, none⟩ = some (.slice p.AO D.no p.cO)
theorem Bd.lt {w : World} {g : Nat} {D : Dia} {p : Pl} (h : Bd w g D p) : g < w.heap.size := World.block_lt_of_cell? w _ h.c0
theorem Bd.ext {w w' : World} {g : Nat} {D : Dia} {p : Pl} (h : Bd w g D p) (e : Ext w w') : Bd w' g D p :=
  ⟨(e.old.1 _ _ h.lt).trans h.c0, (e.old.1 _ _ h.lt).trans h.c1, (e.old.1 _ _ h.lt).trans h.c2⟩
theorem Bd.new (w : World) (D : Dia) (p : Pl) (t : TypeId) : Bd (w.alloc (.cells #[.slice p.AI D.ni p.cI, .slice p.AB D.nb p.cB, .slice p.AO D.no p.cO] t)) w.heap.size D p :=
  ⟨by go_simp, by go_simp, by go_simp⟩
/-- The first n bools of block g. -/
def Rb (w : World) (g n : Nat) (P : Nat → Bool) : Prop := g < w.heap.size ∧ ∀ i, i < n → w.cell? ⟨g, i, none⟩ = some (.bool (P i))
theorem Rb.ext {w w' : World} {g n : Nat} {P : Nat → Bool} (h : Rb w g n P) (e : Ext w w') : Rb w' g n P := ⟨Nat.lt_of_lt_of_le h.1 e.size, fun i hi => (e.old.1 _ _ h.1).trans (h.2 i hi)⟩

set_option maxRecDepth 100000 in
set_option maxHeartbeats 1000000 in
theorem isDelay_any {w : World} {D : Dia} {p : Pl} (d : Dm w D p) (i : Nat) (hi : i < D.nb) : Calls Tryz.prog 167 #[dgv D p, I i] w fun e w' => e = .returned (.bool (isD D i)) ∧ Ext w w' := by
  obtain ⟨b, o, ha, hb, hc⟩ := d.blocks (by omega)
  obtain ⟨x0, _⟩ := hc i hi
  have lb := d.lb; unfold maxLen at lb
  unfold isD dgv
  rw [ha]
  clear ha hc d
  have hlt : (i : Int) < (D.nb : Int) := by omega
  generalize (D.B i).k = k at *
  go_enter Tryz.func167, Tryz.ntmps167
  go_wp2
  go_ret
  exact ⟨rfl, (by repeat (first | exact Ext.refl _ | assumption | exact Ext.alloc _ _ | refine Ext.trans ?_ (by assumption) | refine Ext.trans ?_ (Ext.alloc _ _) | refine Ext.trans ?_ (Ext.drewN _ _) | refine Ext.trans ?_ (Ext.drew _)))⟩

/-- The slice of a block's sources. -/
def SrP (n : Nat) (f : Nat → Int) (w : World) (e : Ending) (w' : World) : Prop := ∃ A' c', e = .returned (.slice A' n c') ∧ Ri w' A' n f ∧ (A' = none → c' = 0) ∧ Ext w w'
set_option maxRecDepth 100000 in
set_option maxHeartbeats 1000000 in
theorem sources_any (k : Int) (A : Option Addr) (n c : Nat) (f : Nat → Int) (vn ve un ue : Int) (w : World) (r : Ri w A n f) (hA : A = none → c = 0) :
    Calls Tryz.prog 184 #[bkv k A n c vn ve un ue] w (SrP (if k = 0 then 0 else n) f w) := by
  have HA0 := Lib.hid hA; clear hA
  by_cases h : k = 0
  · subst h
    have R := Lib.hid r; clear r
    go_enter Tryz.func184, Tryz.ntmps184
    go_wp2
    go_ret
    exact ⟨none, 0, rfl, Ri.none_, fun _ => rfl, (by repeat (first | exact Ext.refl _ | assumption | exact Ext.alloc _ _ | refine Ext.trans ?_ (by assumption) | refine Ext.trans ?_ (Ext.alloc _ _) | refine Ext.trans ?_ (Ext.drewN _ _) | refine Ext.trans ?_ (Ext.drew _)))⟩
  · have R := Lib.hid r; clear r
    have h' : (k == 0) = false := by simpa using h
    rw [if_neg h]
    clear h
    go_enter Tryz.func184, Tryz.ntmps184
    go_wp2
    go_ret
    exact ⟨A, c, rfl, R.out.ext (by repeat (first | exact Ext.refl _ | assumption | exact Ext.alloc _ _ | refine Ext.trans ?_ (by assumption) | refine Ext.trans ?_ (Ext.alloc _ _) | refine Ext.trans ?_ (Ext.drewN _ _) | refine Ext.trans ?_ (Ext.drew _))), HA0.out, (by repeat (first | exact Ext.refl _ | assumption | exact Ext.alloc _ _ | refine Ext.trans ?_ (by assumption) | refine Ext.trans ?_ (Ext.alloc _ _) | refine Ext.trans ?_ (Ext.drewN _ _) | refine Ext.trans ?_ (Ext.drew _)))⟩

set_option maxRecDepth 100000 in
set_option maxHeartbeats 1000000 in
theorem waits_any {w : World} {D : Dia} {p : Pl} {bl bd g c : Nat} {P : Nat → Bool} (d : Dm w D p) (hd : Bd w bd D p) (hl : w.cell? ⟨bl, 0, none⟩ = some (.slice (some ⟨g, 0, none⟩) D.nb c)) (hp : Rb w g D.nb P) (i : Nat) (hi : i < D.nb) :
    Calls Tryz.prog 213 (#[I i] ++ #[.pointer (some ⟨bl, 0, none⟩), .pointer (some ⟨bd, 0, none⟩)]) w fun e w' => e = .returned (.bool (!P i && !isD D i)) ∧ Ext w w' := by
  have x := hp.2 i hi
  have HD := Lib.hid (isDelay_any d i hi)
  obtain ⟨c0, c1, c2⟩ := hd
  have hlt : (i : Int) < (D.nb : Int) := by omega
  clear hp d
  cases hP : P i with
  | true =>
    rw [hP] at x
    clear hP
    go_enter Tryz.func213, Tryz.ntmps213
    go_wp2_with fail
    go_ret
    exact ⟨rfl, Ext.refl _⟩
  | false =>
    rw [hP] at x
    clear hP
    generalize isD D i = q at *
    go_enter Tryz.func213, Tryz.ntmps213
    go_wp2_with (go_at_call 167; refine HD.out.mono ?_; rintro e w1 ⟨rfl, hb1⟩)
    go_ret
    exact ⟨rfl, hb1⟩

set_option maxRecDepth 100000 in
set_option maxHeartbeats 1000000 in
theorem indexFunc_any (g : FuncId) (cb : Array Value) (A : Option Addr) (n c : Nat) (f : Nat → Int) (q : Nat → Bool) (w : World) (r : Ri w A n f) (hn : n ≤ maxLen) (eg : ∀ args w, (callFunc g args).run Tryz.prog w = .ok (.enter g args) w)
    (hf0 : ∀ (i : Nat) (w' : World), i < n → Ext w w' → Calls Tryz.prog g (#[I (f i)] ++ cb) w' fun e w'' => e = .returned (.bool (q i)) ∧ Ext w' w'') :
    Calls Tryz.prog 237 #[.slice A n c, .func (.func g) #[] cb] w fun e w' => e = .returned (I (fstI n q)) ∧ Ext w w' := by
  unfold maxLen at hn
  have HF := Lib.hid hf0; clear hf0
  have R := Lib.hid r; clear r
  go_enter Tryz.func237, Tryz.ntmps237
  go_wp2
  go_loopw [8] (fun s wr => ∃ j : Nat, j ≤ n ∧ s = I j ∧ Ext w wr ∧ Hid (∀ i, i < j → q i = false)) (fun s _ => n - (intOf s).toNat)
  case atStart => exact ⟨0, Nat.zero_le _, rfl, Ext.refl _, fun i hi => absurd hi (by omega)⟩
  case round =>
    obtain ⟨j, hj, rfl, hb, HG⟩ := hrel
    by_cases hlt : j < n
    · obtain ⟨b, o, rfl, hba, ca⟩ := R.out (by omega)
      have xa := (hb.old.1 _ _ hba).trans (ca j hlt)
      clear ca
      have hc0 := HF.out j _ hlt hb
      generalize f j = y at xa hc0
      have HC := Lib.hid hc0; clear hc0
      cases hq : q j with
      | true =>
        rw [hq] at HC
        have HR := Lib.hid (fstI_hit HG.out hlt hq)
        clear hq
        go_wp2_with (go_at_fn g; refine HC.out.mono ?_; rintro e w1 ⟨rfl, hb1⟩; replace hb := Ext.trans hb hb1; clear hb1)
        go_ret
        exact ⟨by rw [HR.out]; rfl, hb⟩
      | false =>
        rw [hq] at HC
        have HG2 : Hid (∀ i, i < j + 1 → q i = false) := fun i hi => by
          by_cases h : i = j
          · subst h; exact hq
          · exact HG.out i (by omega)
        clear hq
        go_wp2_with (go_at_fn g; refine HC.out.mono ?_; rintro e w1 ⟨rfl, hb1⟩; replace hb := Ext.trans hb hb1; clear hb1)
        go_roundw
        case rel => exact ⟨j + 1, by omega, by go_num, hb, HG2⟩
        case measure => simp [intOf]; omega
    · obtain rfl : j = n := by omega
      have HR := Lib.hid (fstI_none HG.out)
      go_wp2
      go_ret
      exact ⟨by rw [HR.out]; rfl, hb⟩
/-- Does q hold at one of the first n places? -/
def anyN (n : Nat) (q : Nat → Bool) : Bool := decide (0 ≤ fstI n q)
theorem anyN_all (n : Nat) (q : Nat → Bool) : allN n q = !anyN n (fun i => !q i) := by
  unfold allN anyN
  rcases fstI_cases n (fun i => !q i) with ⟨h, _⟩ | ⟨j, _, h, _⟩
  · rw [h]; rfl
  · rw [h]
    simp
set_option maxRecDepth 100000 in
set_option maxHeartbeats 1000000 in
theorem containsFunc_any (g : FuncId) (cb : Array Value) (A : Option Addr) (n c : Nat) (f : Nat → Int) (q : Nat → Bool) (w : World) (r : Ri w A n f) (hn : n ≤ maxLen) (eg : ∀ args w, (callFunc g args).run Tryz.prog w = .ok (.enter g args) w)
    (hf0 : ∀ (i : Nat) (w' : World), i < n → Ext w w' → Calls Tryz.prog g (#[I (f i)] ++ cb) w' fun e w'' => e = .returned (.bool (q i)) ∧ Ext w' w'') :
    Calls Tryz.prog 214 #[.slice A n c, .func (.func g) #[] cb] w fun e w' => e = .returned (.bool (anyN n q)) ∧ Ext w w' := by
  have HC := Lib.hid (indexFunc_any g cb A n c f q w r hn eg hf0)
  clear hf0 r eg
  unfold anyN
  generalize fstI n q = z at *
  by_cases h : 0 ≤ z
  all_goals
    go_enter Tryz.func214, Tryz.ntmps214
    go_wp2_with (go_at_call 237; refine HC.out.mono ?_; rintro e w1 ⟨rfl, hb1⟩)
    go_ret
    exact ⟨by simp [h], hb1⟩
end

/-! ### Dgg -/
section
open Go.RowKit

/-- The two boxes of leastReady. -/
theorem two_bl (w : World) (D : Dia) (p : Pl) (g c : Nat) (t t' : TypeId) :
    Bd ((w.alloc (.cells #[.slice p.AI D.ni p.cI, .slice p.AB D.nb p.cB, .slice p.AO D.no p.cO] t)).alloc (.cells #[.slice (some ⟨g, 0, none⟩) D.nb c] t')) w.heap.size D p ∧
    ((w.alloc (.cells #[.slice p.AI D.ni p.cI, .slice p.AB D.nb p.cB, .slice p.AO D.no p.cO] t)).alloc (.cells #[.slice (some ⟨g, 0, none⟩) D.nb c] t')).cell? ⟨w.heap.size + 1, 0, none⟩ = some (.slice (some ⟨g, 0, none⟩) D.nb c) ∧
    w.heap.size + 1 < ((w.alloc (.cells #[.slice p.AI D.ni p.cI, .slice p.AB D.nb p.cB, .slice p.AO D.no p.cO] t)).alloc (.cells #[.slice (some ⟨g, 0, none⟩) D.nb c] t')).heap.size :=
  ⟨(Bd.new w D p t).ext (Ext.alloc _ _), by go_simp, by simp⟩
theorem rdy_eq (D : Dia) (P : Nat → Bool) (i : Nat) : rdy D P i = ((!P i && !isD D i) && !anyN (ns D i) (fun j => !P (sr D i j) && !isD D (sr D i j))) := by
  unfold rdy
  rw [anyN_all]
  congr 3
  funext j
  cases P (sr D i j) <;> cases isD D (sr D i j) <;> rfl
set_option maxRecDepth 100000 in
set_option maxHeartbeats 1000000 in
theorem leastReady_any {w : World} {D : Dia} {p : Pl} {g c : Nat} {P : Nat → Bool} (d : Dm w D p) (wf : WF D) (hp : Rb w g D.nb P) :
    Calls Tryz.prog 166 #[dgv D p, .slice (some ⟨g, 0, none⟩) D.nb c] w fun e w' => e = .returned (I (fstI D.nb (rdy D P))) ∧ Ext w w' := by
  have hnb := wf.nb
  have eg : ∀ args w, (callFunc 213 args).run Tryz.prog w = .ok (.enter 213 args) w := enters_of Tryz.func213 (by kernel_rfl) rfl
  obtain ⟨b1, b2, b3⟩ := two_bl w D p g c 48 176
  have hb : Ext w _ := (Ext.alloc w (.cells #[.slice p.AI D.ni p.cI, .slice p.AB D.nb p.cB, .slice p.AO D.no p.cO] 48)).trans (Ext.alloc _ (.cells #[.slice (some ⟨g, 0, none⟩) D.nb c] 176))
  have HB := Lib.hid hb
  have HW : Hid (∀ (i : Nat) (w' : World), i < D.nb → Ext ((w.alloc (.cells #[.slice p.AI D.ni p.cI, .slice p.AB D.nb p.cB, .slice p.AO D.no p.cO] 48)).alloc (.cells #[.slice (some ⟨g, 0, none⟩) D.nb c] 176)) w' →
      Calls Tryz.prog 213 (#[I i] ++ #[.pointer (some ⟨w.heap.size + 1, 0, none⟩), .pointer (some ⟨w.heap.size, 0, none⟩)]) w' fun e w'' => e = .returned (.bool (!P i && !isD D i)) ∧ Ext w' w'') := fun i w' hi he =>
    waits_any (d.ext (hb.trans he)) (b1.ext he) ((he.old.1 _ _ b3).trans b2) (hp.ext (hb.trans he)) i hi
  have HBD := Lib.hid b1
  have HD := Lib.hid d
  have EG := Lib.hid eg
  have HWF := Lib.hid wf
  clear b1 b2 d hp eg wf
  obtain ⟨c0, c1, c2⟩ := HBD.out
  go_enter Tryz.func166, Tryz.ntmps166
  go_wp2_with fail
  go_loopw [12] (fun s wr => ∃ j : Nat, j ≤ D.nb ∧ s = I j ∧ Hid (Ext ((w.alloc (.cells #[.slice p.AI D.ni p.cI, .slice p.AB D.nb p.cB, .slice p.AO D.no p.cO] 48)).alloc (.cells #[.slice (some ⟨g, 0, none⟩) D.nb c] 176)) wr) ∧ Hid (∀ i, i < j → rdy D P i = false)) (fun s _ => D.nb - (intOf s).toNat)
  case atStart => exact ⟨0, Nat.zero_le _, rfl, Ext.refl _, fun i hi => absurd hi (by omega)⟩
  case round =>
    obtain ⟨j, hj, rfl, hb, HG⟩ := hrel
    by_cases hlt : j < D.nb
    · obtain ⟨b, o, ha, hba, hc⟩ := (HD.out.ext (HB.out.trans hb.out)).blocks (by omega)
      obtain ⟨x0, x1, x2, x3, x4, x5⟩ := hc j hlt
      have hsz : ((w.alloc (.cells #[.slice p.AI D.ni p.cI, .slice p.AB D.nb p.cB, .slice p.AO D.no p.cO] 48)).alloc (.cells #[.slice (some ⟨g, 0, none⟩) D.nb c] 176)).heap.size ≤ wr.heap.size := hb.out.size
      have hn2 := (HWF.out.ns2 hlt).1
      have HSR : Hid (∀ w', Ext wr w' → Calls Tryz.prog 184 #[bkv (D.B j).k (p.AA j) (D.B j).n (p.cA j) (D.B j).vn (D.B j).ve (D.B j).un (D.B j).ue] w' (SrP (ns D j) (D.B j).a w')) := fun w' he =>
        sources_any (D.B j).k (p.AA j) (D.B j).n (p.cA j) (D.B j).a _ _ _ _ w' (((HD.out.ext (HB.out.trans (hb.out.trans he))).args j hlt).1) (HD.out.nA j hlt)
      have HCF : Hid (∀ A' c' w', Ext wr w' → Ri w' A' (ns D j) (D.B j).a → Calls Tryz.prog 214 #[.slice A' (ns D j) c', .func (.func 213) #[] #[.pointer (some ⟨w.heap.size + 1, 0, none⟩), .pointer (some ⟨w.heap.size, 0, none⟩)]] w' fun e w'' =>
          e = .returned (.bool (anyN (ns D j) (fun i => !P (sr D j i) && !isD D (sr D j i)))) ∧ Ext w' w'') := fun A' c' w' he r' =>
        containsFunc_any 213 _ A' (ns D j) c' (D.B j).a _ w' r' (by unfold maxLen; omega) EG.out (fun i w'' hi he' => by
          have h1 := HWF.out.src hlt hi
          have := HW.out (sr D j i) w'' h1.2.1 ((hb.out.trans he).trans he')
          rw [← h1.1] at this; exact this)
      have HR := Lib.hid (rdy_eq D P j)
      have HWJ : Hid (∀ w', j < D.nb → Ext ((w.alloc (.cells #[.slice p.AI D.ni p.cI, .slice p.AB D.nb p.cB, .slice p.AO D.no p.cO] 48)).alloc (.cells #[.slice (some ⟨g, 0, none⟩) D.nb c] 176)) w' →
        Calls Tryz.prog 213 #[I j, .pointer (some ⟨w.heap.size + 1, 0, none⟩), .pointer (some ⟨w.heap.size, 0, none⟩)] w' fun e w'' => e = .returned (.bool (!P j && !isD D j)) ∧ Ext w' w'') := HW.out j
      generalize hq1 : (!P j && !isD D j) = q1 at *
      generalize hq2 : anyN (ns D j) (fun i => !P (sr D j i) && !isD D (sr D j i)) = q2 at *
      clear hq1 hq2
      clear hc c0 c1 c2
      generalize ns D j = nj at *
      generalize (D.B j).a = fj at *
      generalize (D.B j).k = kj at *
      generalize (D.B j).n = mj at *
      generalize (D.B j).vn = vn at *
      generalize (D.B j).ve = ve at *
      generalize (D.B j).un = un at *
      generalize (D.B j).ue = ue at *
      have hlt' : (j : Int) < (D.nb : Int) := by omega
      cases q1 with
      | false =>
        have HG2 : Hid (∀ i, i < j + 1 → rdy D P i = false) := fun i hi => by
          by_cases h : i = j
          · subst h; rw [HR.out]; rfl
          · exact HG.out i (by omega)
        go_wp2_with (go_at_call 213; (with_reducible refine (HWJ.out _ hlt (hb.out.trans (Ext.alloc _ _))).mono ?_); rintro e w1 ⟨rfl, hb1⟩)
        rw [← ha]
        go_roundw
        case rel => exact ⟨j + 1, by omega, by go_num, hb.out.trans ((Ext.alloc _ _).trans hb1), HG2⟩
        case measure => simp [intOf]; omega
      | true =>
        cases q2 with
        | false =>
          have HF := Lib.hid (fstI_hit HG.out hlt (by rw [HR.out]; rfl))
          go_wp2_with (first
            | (go_at_call 213; (with_reducible refine (HWJ.out _ hlt (hb.out.trans (Ext.alloc _ _))).mono ?_); rintro e w1 ⟨rfl, hb1⟩; obtain ⟨hc1, hf1⟩ := hb1.old)
            | (go_at_call 184; (with_reducible refine (HSR.out _ ((Ext.alloc _ _).trans hb1)).mono ?_); rintro e w2 ⟨A2, c2, rfl, r2, _, hb2⟩; have R2 := Lib.hid r2; clear r2)
            | (go_at_call 214; (with_reducible refine (HCF.out A2 c2 _ (((Ext.alloc _ _).trans hb1).trans hb2) R2.out).mono ?_); rintro e w3 ⟨rfl, hb3⟩))
          go_ret
          exact ⟨by rw [HF.out]; rfl, HB.out.trans (hb.out.trans ((((Ext.alloc _ _).trans hb1).trans hb2).trans hb3))⟩
        | true =>
          have HG2 : Hid (∀ i, i < j + 1 → rdy D P i = false) := fun i hi => by
            by_cases h : i = j
            · subst h; rw [HR.out]; rfl
            · exact HG.out i (by omega)
          go_wp2_with (first
            | (go_at_call 213; (with_reducible refine (HWJ.out _ hlt (hb.out.trans (Ext.alloc _ _))).mono ?_); rintro e w1 ⟨rfl, hb1⟩; obtain ⟨hc1, hf1⟩ := hb1.old)
            | (go_at_call 184; (with_reducible refine (HSR.out _ ((Ext.alloc _ _).trans hb1)).mono ?_); rintro e w2 ⟨A2, c2, rfl, r2, _, hb2⟩; have R2 := Lib.hid r2; clear r2)
            | (go_at_call 214; (with_reducible refine (HCF.out A2 c2 _ (((Ext.alloc _ _).trans hb1).trans hb2) R2.out).mono ?_); rintro e w3 ⟨rfl, hb3⟩))
          rw [← ha]
          go_roundw
          case rel => exact ⟨j + 1, by omega, by go_num, hb.out.trans ((((Ext.alloc _ _).trans hb1).trans hb2).trans hb3), HG2⟩
          case measure => simp [intOf]; omega
    · obtain rfl : j = D.nb := by omega
      have HR := Lib.hid (fstI_none HG.out)
      go_wp2_with fail
      go_ret
      exact ⟨by rw [HR.out]; rfl, HB.out.trans hb.out⟩
end

/-! ### Dgh -/
section
open Go Go.RowKit

theorem infoI : (Tryz.prog.info? 3).map (fun i => (i.zero, i.size, i.bytes)) = some (some (I 0), 1, 8) := by kernel_rfl
theorem infoB : (Tryz.prog.info? 4).map (fun i => (i.zero, i.size, i.bytes)) = some (some (.bool false), 1, 1) := by kernel_rfl
theorem rowIs_made' (w : World) (z : Value) (n : Nat) (t : TypeId) {g : Nat} (hg : g = w.heap.size) : (w.alloc (.cells (madeCells #[z] n) t)).rowIs g t n (fun _ => z) := hg ▸ World.rowIs_made w z n t
theorem _root_.Go.World.rowIs.ext {w w' : World} {b : Nat} {t : TypeId} {n : Nat} {f : Nat → Value} (h : w.rowIs b t n f) (x : Ext w w') : w'.rowIs b t n f := h.of_block (x.block b h.lt)
theorem rb_of_row {w : World} {g n : Nat} {P : Nat → Bool} (h : w.rowIs g 4 n (fun i => .bool (P i))) : Rb w g n P := ⟨h.lt, fun _ hi => h.cell hi⟩

def nI (L : List Nat) : List Value := L.map fun (i : Nat) => I (i : Int)
/-- The slice owns its memory (blocks from base on) and holds the numbers of L. -/
def OwL (w : World) (base : Nat) (A : Option Addr) (c : Nat) (L : List Nat) : Prop := w.ownsRow base 3 1 (.slice A L.length c) L.length (nI L)
theorem OwL.nil (w : World) (base : Nat) : OwL w base none 0 [] := World.ownsRow_nil _ _ _ _
theorem OwL.mono {w : World} {base base' c : Nat} {A : Option Addr} {L : List Nat} (h : OwL w base A c L) (hb : base' ≤ base) : OwL w base' A c L := by
  obtain ⟨hl, h⟩ := h
  refine ⟨hl, ?_⟩
  rcases h with h | ⟨g, cap, cur, h1, h2, h3⟩
  · exact .inl h
  · exact .inr ⟨g, cap, cur, h1, by omega, h3⟩
theorem OwL.lt {w : World} {base c : Nat} {A : Option Addr} {L : List Nat} (h : OwL w base A c L) : ∀ k, (Value.slice A L.length c).ownBlock = some k → base ≤ k ∧ k < w.heap.size := World.ownsRow.lt h
theorem ext_gr {w w' : World} (e : Ext w w') : w.grownBy w' none := ⟨e.os, e.tape, e.output, e.size, fun k hk _ => e.block k hk⟩
theorem OwL.ext {w w' : World} {base c : Nat} {A : Option Addr} {L : List Nat} (h : OwL w base A c L) (e : Ext w w') : OwL w' base A c L :=
  World.ownsRow.kept h (ext_gr e) (by cases (Value.slice A L.length c).ownBlock <;> simp)
theorem OwL.off {w w' : World} {base c g : Nat} {A : Option Addr} {L : List Nat} (h : OwL w base A c L) (e : w.grownBy w' (some g)) (hg : g < base) : OwL w' base A c L := by
  refine World.ownsRow.kept h e ?_
  cases hv : (Value.slice A L.length c).ownBlock with
  | none => simp
  | some k => right; have := (h.lt k hv).1; intro e; injection e with e; omega
theorem OwL.ri {w : World} {base c : Nat} {A : Option Addr} {L : List Nat} (h : OwL w base A c L) : Ri w A L.length (fun i => ((L.getD i 0 : Nat) : Int)) := fun hn => by
  have h' := h
  obtain ⟨_, ⟨e, h0⟩ | ⟨g, cap, cur, e, _⟩⟩ := h'
  · omega
  · injection e with e1 e2 e3
    subst e1
    refine ⟨g, 0, rfl, (h.lt g rfl).2, fun i hi => ?_⟩
    have := World.ownsRow.cellAt h i (by omega)
    rw [Nat.zero_add, this]
    simp [nI, List.getElem?_eq_getElem hi, List.getD]
theorem grow_ext {W w w' : World} {base c : Nat} {A : Option Addr} {L : List Nat} (e : Ext W w) (h : OwL w base A c L) (hb : W.heap.size ≤ base) (hg : w.grownBy w' (Value.slice A L.length c).ownBlock) : Ext W w' :=
  Below.grown e hg e.size (fun k hk => Nat.le_trans hb (h.lt k hk).1)
theorem news1' {w : World} {ad : Addr} {v : Value} (h : w.cell? ad = some v) : ∀ j u, [v][j]? = some u → w.cell? (ad.add j) = some u := by
  intro j u hj
  cases j with
  | zero => simp at hj; subst hj; exact h
  | succ j => simp at hj
theorem appL {ops : Array Oper} {rest : List Oper} {o : Oper} {a : Act} {w : World} {Q : Exit → Act → World → Prop} (hgd : o.guard = none) (s x : Operand) (ho : o.op = .call { callee := .builtin .append, args := #[s, x], argTypes := #[46, 46] })
    (base : Nat) (A : Option Addr) (c : Nat) (L : List Nat) (hs : a.eval s = .slice A L.length c) (hown : OwL w base A c L) (ad : Addr) (cx v : Nat) (hx : a.eval x = .slice (some ad) 1 cx) (hv : w.cell? ad = some (I v))
    (hn : L.length ≤ 1099511627776) (hbase : base ≤ w.heap.size)
    (h : ∀ g cap w', OwL w' base (some ⟨g, 0, none⟩) cap (L ++ [v]) → w.grownBy w' (Value.slice A L.length c).ownBlock → ((Value.slice A L.length c).ownBlock = some g ∨ g = w.heap.size) → g < w'.heap.size →
      wpList Tryz.prog ops Q rest (a.put o.dst (.slice (some ⟨g, 0, none⟩) (L ++ [v]).length cap)) w') : wpList Tryz.prog ops Q (o :: rest) a w := by
  obtain ⟨i, hi, hz, h1, hb⟩ := info_parts infoI
  refine wpList_append_lies w hgd s x _ ho base 3 i _ 1 8 Tryz.underlying46 hi hz h1 hb rfl (by omega) _ L.length _ hs hown ad 1 cx [I v] hx rfl (news1' hv) (by simp [Value.oneCell']) (by omega) (by unfold maxLen; omega) (by omega) hbase w.heap.size rfl ?_
  intro g cap w' h1 h2 h3 h4
  have e : (L ++ [v]).length = L.length + 1 := by simp
  have := h g cap w' (by unfold OwL; rw [e]; unfold nI at *; rw [List.map_append]; exact h1) h2 h3 h4
  rw [e] at this; exact this
def lenV : Value → Nat
  | .slice _ n _ => n
  | _ => 0
/-- A list in new memory. -/
def LsR (L : List Nat) (w : World) (e : Ending) (w' : World) : Prop := ∃ A c, e = .returned (.slice A L.length c) ∧ OwL w' w.heap.size A c L ∧ Ext w w'

/-- What order's loop keeps. -/
structure OrdM (W w : World) (gl : Nat) (D : Dia) (A : Option Addr) (c : Nat) (L : List Nat) : Prop where
  ext : Ext W w
  glz : W.heap.size = gl
  own : OwL w (gl + 1) A c L
  row : w.rowIs gl 4 D.nb (fun i => .bool (inL L i))
  inv : OrdI D L
theorem OrdM.go {W w wa wb : World} {gl g : Nat} {D : Dia} {A : Option Addr} {c cap : Nat} {L : List Nat} {j : Nat} (h : OrdM W w gl D A c L) (hj : j < D.nb) (hf : fstI D.nb (rdy D (inL L)) = j) (hr : rdy D (inL L) j = true)
    (e : Ext w wa) (hown : OwL wb (gl + 1) (some ⟨g, 0, none⟩) cap (L ++ [j])) (hg : wa.grownBy wb (Value.slice A L.length c).ownBlock) :
    wb.cell? ⟨gl, j, none⟩ = some (.bool (inL L j)) ∧ wb.frozen? ⟨gl, j, none⟩ = false ∧ OrdM W (wb.setCell ⟨gl, j, none⟩ (.bool true)) gl D (some ⟨g, 0, none⟩) cap (L ++ [j]) := by
  have ho := h.own.ext e
  have hrow : wb.rowIs gl 4 D.nb (fun i => .bool (inL L i)) := (h.row.ext e).of_block (hg.block gl (h.row.ext e).lt (fun q => by have := (ho.lt gl q.symm).1; omega))
  refine ⟨hrow.cell hj, hrow.frozen j, ?_, h.glz, ?_, ?_, h.inv.app hj hf hr⟩
  · exact (grow_ext (h.ext.trans e) ho (by rw [h.glz]; omega) hg).set (by show _ ≤ gl; rw [h.glz]; omega) _
  · exact hown.off (g := gl) ⟨rfl, rfl, rfl, by simp, fun k _ hk => Below.heap_setCell _ _ _ k (fun q => hk (by simp [q]))⟩ (by omega)
  · refine (hrow.set j (.bool true)).congr fun i hi => ?_
    rw [inL_app]
    by_cases q : i = j
    · subst q; simp
    · simp [q]

set_option maxRecDepth 100000 in
set_option maxHeartbeats 1000000 in
theorem order_any {w : World} {D : Dia} {p : Pl} (d : Dm w D p) (wf : WF D) : Calls Tryz.prog 96 #[dgv D p] w (LsR (ordL D) w) := by
  have hnb := wf.nb
  have hmk := run_make_row' 176 4 (.bool false) 1 Tryz.underlying176 infoB rfl .i64 .i64 D.nb (by omega) (by omega)
  have HBD := Lib.hid (Bd.new w D p 48)
  obtain ⟨W1, hW1⟩ : ∃ W1, W1 = w.alloc (.cells #[.slice p.AI D.ni p.cI, .slice p.AB D.nb p.cB, .slice p.AO D.no p.cO] 48) := ⟨_, rfl⟩
  have hE : Ext w W1 := by rw [hW1]; exact Ext.alloc _ _
  have hz1 : W1.heap.size = w.heap.size + 1 := by rw [hW1]; simp
  rw [← hW1] at HBD
  have HD := Lib.hid d
  have HWF := Lib.hid wf
  have HE := Lib.hid hE
  have HST : Hid (OrdM W1 (W1.alloc (.cells (madeCells #[.bool false] D.nb) 4)) (w.heap.size + 1) D none 0 []) :=
    ⟨Ext.alloc _ _, hz1, OwL.nil _ _, rowIs_made' _ _ _ _ hz1.symm, OrdI.nil D⟩
  rw [hW1] at HST
  clear d wf hE
  go_enter Tryz.func96, Tryz.ntmps96
  go_wp2_with fail
  go_loopw [3] (fun s wr => ∃ A c L, s = .slice A (List.length L) c ∧ Hid (OrdM W1 wr (w.heap.size + 1) D A c L)) (fun s _ => D.nb - lenV s)
  case atStart => exact ⟨none, 0, [], rfl, by rw [hW1]; exact HST⟩
  case round =>
    obtain ⟨A, c, L, rfl, H⟩ := hrel
    have hl := H.out.inv.le
    obtain ⟨c0, c1, c2⟩ := HBD.out.ext H.out.ext
    have HC := Lib.hid (leastReady_any (c := D.nb) (HD.out.ext (HE.out.trans H.out.ext)) HWF.out (rb_of_row H.out.row))
    rcases fstI_cases D.nb (rdy D (inL L)) with ⟨hf, _⟩ | ⟨j, hj, hf, hr, _⟩
    · rw [hf] at HC
      have HF := Lib.hid (H.out.inv.fin hf)
      clear hf
      go_wp2_with (go_at_call 166; refine HC.out.mono ?_; rintro e w1 ⟨rfl, hb1⟩)
      go_ret
      exact ⟨A, c, by rw [HF.out]; rfl, by rw [HF.out]; exact (H.out.own.ext hb1).mono (by omega), HE.out.trans (H.out.ext.trans hb1)⟩
    · rw [hf] at HC
      have HF := Lib.hid hf
      have HR := Lib.hid hr
      have hroom := H.out.inv.room hj hr
      clear hf hr
      have hjl : (j : Int) < (D.nb : Int) := by omega
      go_wp2_with (first
        | (go_at_call 166; refine HC.out.mono ?_; rintro e w1 ⟨rfl, hb1⟩; have hsz1 := hb1.size; have hszr := H.out.ext.size)
        | (at_builtin; refine appL rfl _ _ rfl (w.heap.size + 1 + 1) A c L rfl (H.out.own.ext (hb1.trans (Ext.alloc _ _))) _ _ j rfl (by go_simp) (by omega) (by simp; omega) ?_; intro g cap w2 hown hgrow hat hlt; obtain ⟨q1, q2, q3⟩ := H.out.go hj HF.out HR.out (hb1.trans (Ext.alloc _ _)) hown hgrow; have Q3 := Lib.hid q3; clear q3 hown hgrow hat))
      go_roundw
      case rel => exact ⟨some ⟨g, 0, none⟩, cap, L ++ [j], by simp, Q3⟩
      case measure => simp [lenV]; omega

theorem mkL_t {n : Nat} {q : Nat → Bool} (h : q n = true) : mkL (n + 1) q = mkL n q ++ [n] := by show mkL n q ++ _ = _; rw [if_pos h]
theorem mkL_f {n : Nat} {q : Nat → Bool} (h : q n = false) : mkL (n + 1) q = mkL n q := by show mkL n q ++ _ = _; rw [if_neg (by rw [h]; decide), List.append_nil]
set_option maxRecDepth 100000 in
set_option maxHeartbeats 1000000 in
theorem delays_any {w : World} {D : Dia} {p : Pl} (d : Dm w D p) (hnb : D.nb ≤ 1000000) : Calls Tryz.prog 97 #[dgv D p] w (LsR (delL D) w) := by
  have HBD := Lib.hid (Bd.new w D p 48)
  obtain ⟨W1, hW1⟩ : ∃ W1, W1 = w.alloc (.cells #[.slice p.AI D.ni p.cI, .slice p.AB D.nb p.cB, .slice p.AO D.no p.cO] 48) := ⟨_, rfl⟩
  have hE : Ext w W1 := by rw [hW1]; exact Ext.alloc _ _
  have hz1 : W1.heap.size = w.heap.size + 1 := by rw [hW1]; simp
  rw [← hW1] at HBD
  have HD := Lib.hid d
  have HE := Lib.hid hE
  have HW1 := Lib.hid hW1
  have c012 := HBD.out
  rw [hW1] at c012
  obtain ⟨c0, c1, c2⟩ := c012
  clear d hE hW1
  go_enter Tryz.func97, Tryz.ntmps97
  go_wp2_with fail
  clear c0 c1 c2
  go_loopw [3, 8] (fun s t wr => ∃ A c j, j ≤ D.nb ∧ s = .slice A (mkL j (isD D)).length c ∧ t = I j ∧ Hid (OwL wr (w.heap.size + 1) A c (mkL j (isD D))) ∧ Hid (Ext W1 wr)) (fun _ t _ => D.nb - (intOf t).toNat)
  case atStart => exact ⟨none, 0, 0, Nat.zero_le _, rfl, rfl, OwL.nil _ _, by rw [HW1.out]; exact Ext.refl _⟩
  case round =>
    obtain ⟨A, c, j, hj, rfl, rfl, HO, HX⟩ := hrel
    by_cases hlt : j < D.nb
    · have hlen : (mkL j (isD D)).length ≤ j := by rw [mkL_len]; exact cnt_le _ _
      obtain ⟨c0, c1, c2⟩ := HBD.out.ext HX.out
      have HC := Lib.hid (isDelay_any (HD.out.ext (HE.out.trans HX.out)) j hlt)
      cases hq : isD D j with
      | false =>
        rw [hq] at HC
        have HM := Lib.hid (mkL_f hq)
        clear hq
        go_wp2_with (go_at_call 167; refine HC.out.mono ?_; rintro e w1 ⟨rfl, hb1⟩)
        go_roundw
        case rel => exact ⟨A, c, j + 1, by omega, by rw [HM.out], by go_num, by rw [HM.out]; exact HO.out.ext hb1, HX.out.trans hb1⟩
        case measure => simp [intOf]; omega
      | true =>
        rw [hq] at HC
        have HM := Lib.hid (mkL_t hq)
        clear hq
        have hszr := HX.out.size
        generalize mkL j (isD D) = L at *
        go_wp2_with (first
          | (go_at_call 167; refine HC.out.mono ?_; rintro e w1 ⟨rfl, hb1⟩; have hsz1 := hb1.size)
          | (at_builtin; refine appL rfl _ _ rfl (w.heap.size + 1) A c L rfl (HO.out.ext (hb1.trans (Ext.alloc _ _))) _ _ j rfl (by go_simp) (by omega) (by simp; omega) ?_; intro g cap w2 hown hgrow hat hlt; have G := Lib.hid (grow_ext (HX.out.trans (hb1.trans (Ext.alloc _ _))) (HO.out.ext (hb1.trans (Ext.alloc _ _))) (by omega) hgrow); have O2 := Lib.hid hown; clear hown hgrow hat))
        go_roundw
        case rel => exact ⟨some ⟨g, 0, none⟩, cap, j + 1, by omega, by rw [HM.out]; simp, by go_num, by rw [HM.out]; exact O2.out, G.out⟩
        case measure => simp [intOf]; omega
    · obtain rfl : j = D.nb := by omega
      go_wp2_with fail
      go_ret
      exact ⟨A, c, rfl, HO.out.mono (by omega), HE.out.trans HX.out⟩
end

end Go.Proofs.YtcdkkohklhmpgaaGreatDoor
