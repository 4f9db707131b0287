/- The fixed-point machine: awake. -/
import Derived.Test.YtommlhdiefoocaaKdh
namespace Go.Proofs.Ytommlhdiefoocaa
open Go Go.RowKit

def exG (x : Ins) : Pgm := ⟨0, fun _ => ⟨0, 0, 0⟩, 3, fun i => if i = 0 then 5 else if i = 1 then -3 else 0, 1, fun _ => x, 1, fun _ => 2⟩
def exX : Ins := ⟨3, 2, 0, 1, 1, -1, 0⟩
def exY : Ins := ⟨6, 2, 0, 0, 0, 0, 1073741824⟩
def exP (n g : Nat) : Pp := ⟨none, 0, some ⟨n, 0, none⟩, 3, some ⟨g, 0, none⟩, 1, some ⟨n + 1, 0, none⟩, 1⟩
/-- The example's program lies in w: the cells at n, the outputs at n + 1, the code at g. -/
structure ExP (w : World) (n g : Nat) (x : Ins) : Prop where
  init : Ri w (some ⟨n, 0, none⟩) 3 (exG x).C
  outs : Ri w (some ⟨n + 1, 0, none⟩) 1 (exG x).O
  code : Rx w (some ⟨g, 0, none⟩) 1 (exG x).X
theorem ExP.pm {w : World} {n g : Nat} {x : Ins} (h : ExP w n g x) : Pm w (exG x) (exP n g) :=
  ⟨fun h => absurd h (by show ¬ 0 < 0; omega), h.init, h.code, h.outs, by show 0 ≤ _; omega, by show 3 ≤ maxLen; unfold maxLen; omega, by show 1 ≤ maxLen; unfold maxLen; omega, by show 1 ≤ maxLen; unfold maxLen; omega, fun e => (by cases e), Nat.le_refl _⟩
theorem ExP.ext {w w' : World} {n g : Nat} {x : Ins} (h : ExP w n g x) (e : Ext w w') : ExP w' n g x := ⟨h.init.ext e, h.outs.ext e, h.code.ext e⟩
/-- What a run of the example is asked. -/
def ExR (v : Int) (ov : Bool) (w : World) (e : Ending) (w' : World) : Prop := ∃ A k B l, e = .returned (.tuple #[.agg #[.slice A 3 k, .slice B 1 l, .bool ov], .nilIface]) ∧ Ri w' B 1 (fun _ => v) ∧ (∀ b o, B = some ⟨b, o, none⟩ → w.heap.size ≤ b) ∧ Ext w w'
theorem ex_run {w : World} {n g : Nat} {x : Ins} {b : Nat} {v : Int} {ov : Bool} (h : ExP w n g x) (hc : chP (exG x) = 0) (hv : (runC (exG x).X (fun _ => 0) (exG x).C 1).1 2 = v) (ho : (runC (exG x).X (fun _ => 0) (exG x).C 1).2 = ov)
    (rb : Ri w (some ⟨b, 0, none⟩) 3 (exG x).C) :
    Calls Try.prog 15 #[.agg #[.slice none 0 0, .slice (some ⟨n, 0, none⟩) 3 3, .slice (some ⟨g, 0, none⟩) 1 1, .slice (some ⟨n + 1, 0, none⟩) 1 1], .slice (some ⟨b, 0, none⟩) 3 3, .slice none 0 0] w (ExR v ov w) := by
  have hd : daE (exG x) (exG x).nc (exG x).C 0 (fun _ => 0) = 0 := daE_of (G := exG x) (chP_ok hc).wd (fun i hi => absurd hi (by show ¬ i < 0; omega))
  refine (Run_ok (cA := 3) (cB := 0) h.pm hc rb Ri.none_ (fun e => by cases e) hd).mono fun e w' hr => ?_
  obtain ⟨A, k, B, l, he, _, r2, _, _, _, hN, _, hx⟩ := hr
  subst hv; subst ho
  exact ⟨A, k, B, l, he, r2.congr (fun i hi => rfl), hN, hx⟩
theorem ex_chk1 : chP (exG exX) = 0 := by decide +kernel
theorem ex_chk2 : chP (exG exY) = 0 := by decide +kernel
theorem ex_v1 : (runC (exG exX).X (fun _ => 0) (exG exX).C 1).1 2 = 8 := by decide +kernel
theorem ex_o1 : (runC (exG exX).X (fun _ => 0) (exG exX).C 1).2 = false := by decide +kernel
theorem ex_v2 : (runC (exG exY).X (fun _ => 0) (exG exY).C 1).1 2 = 2147483647 := by decide +kernel
theorem ex_o2 : (runC (exG exY).X (fun _ => 0) (exG exY).C 1).2 = true := by decide +kernel
theorem ri3 (w : World) (t : TypeId) : Ri (w.alloc (.cells #[I 5, I (-3), I 0] t)) (some ⟨w.heap.size, 0, none⟩) 3 (fun i => if i = 0 then 5 else if i = 1 then -3 else 0) := fun _ =>
  ⟨_, _, rfl, by simp, fun i hi => by
    have : i = 0 ∨ i = 1 ∨ i = 2 := by omega
    rcases this with h | h | h <;> subst h <;> go_simp⟩
theorem ri1 (w : World) (v : Int) (t : TypeId) : Ri (w.alloc (.cells #[I v] t)) (some ⟨w.heap.size, 0, none⟩) 1 (fun _ => v) := fun _ =>
  ⟨_, _, rfl, by simp, fun i hi => by
    have : i = 0 := by omega
    subst this; go_simp⟩
theorem rx1 (w : World) (x : Ins) (t : TypeId) : Rx (w.alloc (.cells #[I x.op, I x.dst, I x.a, I x.b, I x.sa, I x.sb, I x.im] t)) (some ⟨w.heap.size, 0, none⟩) 1 (fun _ => x) := fun _ =>
  ⟨_, _, rfl, by simp, fun i hi => by
    have : i = 0 := by omega
    subst this
    exact ⟨by go_simp, by go_simp, by go_simp, by go_simp, by go_simp, by go_simp, by go_simp⟩⟩
/-- A box of four cells, a program's. -/
theorem box4 (w : World) (v0 v1 v2 v3 : Value) (t : TypeId) : ∃ f, (w.alloc (.cells #[v0, v1, v2, v3] t)).rowIs w.heap.size t 4 f ∧ f 0 = v0 ∧ f 1 = v1 ∧ f 2 = v2 ∧ f 3 = v3 :=
  ⟨fun i => if i = 0 then v0 else if i = 1 then v1 else if i = 2 then v2 else v3, World.rowIs_alloc w #[v0, v1, v2, v3] t _ (fun i hi => by
    have : i = 0 ∨ i = 1 ∨ i = 2 ∨ i = 3 := by simp at hi; omega
    rcases this with h | h | h | h <;> subst h <;> rfl), rfl, rfl, rfl, rfl⟩
theorem box3r (w : World) (v0 v1 v2 : Value) (t : TypeId) : (w.alloc (.cells #[v0, v1, v2] t)).rowIs w.heap.size t 3 (b3 v0 v1 v2) :=
  World.rowIs_alloc w #[v0, v1, v2] t _ (fun i hi => by
    have : i = 0 ∨ i = 1 ∨ i = 2 := by simp at hi; omega
    rcases this with h | h | h <;> subst h <;> rfl)

set_option maxRecDepth 100000 in
set_option maxHeartbeats 1000000 in
theorem awakeP_any (w : World) : Calls Try.prog 10 #[] w fun e w' => e = .returned (.bool true) ∧ Ext w w' := by
  go_enter Try.func10, Try.ntmps10
  go_upto_region 2 with fail
  obtain ⟨Wa, hWa⟩ : ∃ Wa, Wa = ((w.alloc (.cells #[I 5, I (-3), I 0] 3)).alloc (.cells #[I 2] 3)).alloc (.cells #[I 3, I 2, I 0, I 1, I 1, I (-1), I 0] 52) := ⟨_, rfl⟩
  rw [← hWa]
  have za : Wa.heap.size = w.heap.size + 1 + 1 + 1 := by rw [hWa]; simp
  have HEa : Hid (Ext w Wa) := (by rw [hWa]; exact ((Ext.alloc _ _).trans (Ext.alloc _ _)).trans (Ext.alloc _ _) : Ext w Wa)
  have HPa : Hid (ExP Wa w.heap.size (w.heap.size + 1 + 1) exX) := by
    show ExP _ _ _ _
    rw [hWa]
    refine ⟨((ri3 w _).ext (Ext.alloc _ _)).ext (Ext.alloc _ _), ?_, ?_⟩
    · have := (ri1 (w.alloc (.cells #[I 5, I (-3), I 0] 3)) 2 3).ext (Ext.alloc _ (.cells #[I 3, I 2, I 0, I 1, I 1, I (-1), I 0] 52))
      rwa [show (w.alloc (.cells #[I 5, I (-3), I 0] 3)).heap.size = w.heap.size + 1 by simp] at this
    · have := rx1 ((w.alloc (.cells #[I 5, I (-3), I 0] 3)).alloc (.cells #[I 2] 3)) exX 52
      rwa [show ((w.alloc (.cells #[I 5, I (-3), I 0] 3)).alloc (.cells #[I 2] 3)).heap.size = w.heap.size + 1 + 1 by simp] at this
  clear hWa
  rw [← za]
  obtain ⟨fb, hfb, f0, f1, f2, f3⟩ := box4 Wa (.slice none 0 0) (.slice (some ⟨w.heap.size, 0, none⟩) 3 3) (.slice (some ⟨w.heap.size + 1 + 1, 0, none⟩) 1 1) (.slice (some ⟨w.heap.size + 1, 0, none⟩) 1 1) 26
  have HP1 := Lib.hid (HPa.out.ext (Ext.alloc Wa (.cells #[.slice none 0 0, .slice (some ⟨w.heap.size, 0, none⟩) 3 3, .slice (some ⟨w.heap.size + 1 + 1, 0, none⟩) 1 1, .slice (some ⟨w.heap.size + 1, 0, none⟩) 1 1] 26)))
  have HE1 := Lib.hid (HEa.out.trans (Ext.alloc Wa (.cells #[.slice none 0 0, .slice (some ⟨w.heap.size, 0, none⟩) 3 3, .slice (some ⟨w.heap.size + 1 + 1, 0, none⟩) 1 1, .slice (some ⟨w.heap.size + 1, 0, none⟩) 1 1] 26)))
  obtain ⟨W1, hW1⟩ : ∃ W1, W1 = Wa.alloc (.cells #[.slice none 0 0, .slice (some ⟨w.heap.size, 0, none⟩) 3 3, .slice (some ⟨w.heap.size + 1 + 1, 0, none⟩) 1 1, .slice (some ⟨w.heap.size + 1, 0, none⟩) 1 1] 26) := ⟨_, rfl⟩
  rw [← hW1] at hfb HP1 HE1 ⊢
  have zn : w.heap.size + 1 < Wa.heap.size := by omega
  have zg : Wa.heap.size < W1.heap.size := hfb.lt
  clear hW1 HPa HEa za
  generalize hn : w.heap.size = n at *
  generalize Wa.heap.size = gb at *
  have HF := Lib.hid hfb
  have c0 := hfb.cell (i := 0) (by omega)
  have c1 := hfb.cell (i := 1) (by omega)
  have c2 := hfb.cell (i := 2) (by omega)
  have c3 := hfb.cell (i := 3) (by omega)
  rw [f0] at c0
  rw [f1] at c1
  rw [f2] at c2
  rw [f3] at c3
  clear hfb
  have HR1 : Hid (Calls Try.prog 15 #[.agg #[.slice none 0 0, .slice (some ⟨n, 0, none⟩) 3 3, .slice (some ⟨n + 1 + 1, 0, none⟩) 1 1, .slice (some ⟨n + 1, 0, none⟩) 1 1], .slice (some ⟨W1.heap.size, 0, none⟩) 3 3, .slice none 0 0] (W1.alloc (.cells #[I 5, I (-3), I 0] 3)) (ExR 8 false (W1.alloc (.cells #[I 5, I (-3), I 0] 3)))) :=
    ex_run (HP1.out.ext (Ext.alloc _ _)) ex_chk1 ex_v1 ex_o1 (ri3 W1 _)
  go_upto_region 3 with (go_at_call 15; (with_reducible refine HR1.out.mono ?_); rintro e w2 ⟨A, k, B, l, rfl, r2, hN, h2⟩)
  clear c0 c1 c2 c3
  have HB := Lib.hid (box3r w2 (.slice A 3 k) (.slice B 1 l) (.bool false) 35)
  have HE2 : Hid (Ext W1 (w2.alloc (.cells #[.slice A 3 k, .slice B 1 l, .bool false] 35))) := ((Ext.alloc W1 _).trans h2).toAlloc
  have HRB := Lib.hid (r2.ext (Ext.alloc w2 (.cells #[.slice A 3 k, .slice B 1 l, .bool false] 35)))
  obtain ⟨W2, hW2⟩ : ∃ W2, W2 = w2.alloc (.cells #[.slice A 3 k, .slice B 1 l, .bool false] 35) := ⟨_, rfl⟩
  have hg2 : W1.heap.size < w2.heap.size := by have := h2.size; simp at this; omega
  rw [← hW2] at HB HE2 HRB ⊢
  have HN : Hid (∀ b o, B = some ⟨b, o, none⟩ → b ≠ gb) := fun b o e => by have := hN b o e; simp at this; omega
  clear hW2 h2 r2 HR1 hN
  generalize w2.heap.size = gr at *
  have HF2 := Lib.hid (HF.out.ext HE2.out)
  have c2 := HF2.out.cell (i := 2) (by omega)
  have z2 := HF2.out.frozen 2
  have hlt2 : gb < W2.heap.size := HF2.out.lt
  go_upto_region 4 with fail
  have HP3 : Hid (ExP ((W2.setCell ⟨gb, 2, none⟩ (.slice (some ⟨W2.heap.size, 0, none⟩) 1 1)).alloc (.cells #[I 6, I 2, I 0, I 0, I 0, I 0, I 1073741824] 52)) n W2.heap.size exY) :=
    ⟨((HP1.out.init.ext HE2.out).setOther (fun _ b o e => by cases e; show n ≠ gb; omega) _).ext (Ext.alloc _ _), ((HP1.out.outs.ext HE2.out).setOther (fun _ b o e => by cases e; show n + 1 ≠ gb; omega) _).ext (Ext.alloc _ _), by
      have := rx1 (W2.setCell ⟨gb, 2, none⟩ (.slice (some ⟨W2.heap.size, 0, none⟩) 1 1)) exY 52
      rwa [show (W2.setCell ⟨gb, 2, none⟩ (.slice (some ⟨W2.heap.size, 0, none⟩) 1 1)).heap.size = W2.heap.size by simp] at this⟩
  have HF3 := Lib.hid ((HF2.out.set 2 (.slice (some ⟨W2.heap.size, 0, none⟩) 1 1)).alloc (.cells #[I 6, I 2, I 0, I 0, I 0, I 0, I 1073741824] 52))
  have HB3 := Lib.hid ((HB.out.setOther (a := ⟨gb, 2, none⟩) (show gr ≠ gb by omega) (.slice (some ⟨W2.heap.size, 0, none⟩) 1 1)).alloc (.cells #[I 6, I 2, I 0, I 0, I 0, I 0, I 1073741824] 52))
  have HRB3 := Lib.hid ((HRB.out.setOther (a := ⟨gb, 2, none⟩) (fun _ => HN.out) (.slice (some ⟨W2.heap.size, 0, none⟩) 1 1)).ext (Ext.alloc _ (.cells #[I 6, I 2, I 0, I 0, I 0, I 0, I 1073741824] 52)))
  have HE3 : Hid (Ext w ((W2.setCell ⟨gb, 2, none⟩ (.slice (some ⟨W2.heap.size, 0, none⟩) 1 1)).alloc (.cells #[I 6, I 2, I 0, I 0, I 0, I 0, I 1073741824] 52))) := ((HE1.out.trans HE2.out).toSet (by omega)).toAlloc
  obtain ⟨W3, hW3⟩ : ∃ W3, W3 = (W2.setCell ⟨gb, 2, none⟩ (.slice (some ⟨W2.heap.size, 0, none⟩) 1 1)).alloc (.cells #[I 6, I 2, I 0, I 0, I 0, I 0, I 1073741824] 52) := ⟨_, rfl⟩
  rw [← hW3] at HP3 HF3 HB3 HRB3 HE3 ⊢
  clear hW3 c2 z2
  generalize W2.heap.size = gc at *
  have c0 := HF3.out.cell (i := 0) (by omega)
  have c1 := HF3.out.cell (i := 1) (by omega)
  have c2 := HF3.out.cell (i := 2) (by omega)
  have c3 := HF3.out.cell (i := 3) (by omega)
  simp only [f0, f1, f3, if_true, if_false, Nat.reduceEqDiff] at c0 c1 c2 c3
  have HR2 : Hid (Calls Try.prog 15 #[.agg #[.slice none 0 0, .slice (some ⟨n, 0, none⟩) 3 3, .slice (some ⟨gc, 0, none⟩) 1 1, .slice (some ⟨n + 1, 0, none⟩) 1 1], .slice (some ⟨W3.heap.size, 0, none⟩) 3 3, .slice none 0 0] (W3.alloc (.cells #[I 5, I (-3), I 0] 3)) (ExR 2147483647 true (W3.alloc (.cells #[I 5, I (-3), I 0] 3)))) :=
    ex_run (HP3.out.ext (Ext.alloc _ _)) ex_chk2 ex_v2 ex_o2 (ri3 W3 _)
  have gl3 : gb < W3.heap.size := HF3.out.lt
  go_upto_region 5 with (go_at_call 15; (with_reducible refine HR2.out.mono ?_); rintro e w4 ⟨A', k', B', l', rfl, r4, _, h4⟩)
  clear c0 c1 c2 c3
  have HS5 := Lib.hid (box3r w4 (.slice A' 3 k') (.slice B' 1 l') (.bool true) 35)
  have HE5 : Hid (Ext W3 (w4.alloc (.cells #[.slice A' 3 k', .slice B' 1 l', .bool true] 35))) := ((Ext.alloc W3 _).trans h4).toAlloc
  have HRS := Lib.hid (r4.ext (Ext.alloc w4 (.cells #[.slice A' 3 k', .slice B' 1 l', .bool true] 35)))
  obtain ⟨W5, hW5⟩ : ∃ W5, W5 = w4.alloc (.cells #[.slice A' 3 k', .slice B' 1 l', .bool true] 35) := ⟨_, rfl⟩
  rw [← hW5] at HS5 HE5 HRS ⊢
  clear hW5 h4 r4 HR2 HP3 HF3
  generalize w4.heap.size = gs at *
  have HB5 := Lib.hid (HB3.out.ext HE5.out)
  have r1 : W5.cell? ⟨gr, 1, none⟩ = some (.slice B 1 l) := HB5.out.cell (by omega)
  have r2 : W5.cell? ⟨gr, 2, none⟩ = some (.bool false) := HB5.out.cell (by omega)
  have lr : gr < W5.heap.size := HB5.out.lt
  have HI1 : Hid (Calls Try.prog 19 #[.slice B 1 l, .slice (some ⟨W5.heap.size, 0, none⟩) 1 1] (W5.alloc (.cells #[I 8] 3)) fun e w' => e = .returned (.bool true) ∧ Ext (W5.alloc (.cells #[I 8] 3)) w') :=
    ints_true (by omega) ((HRB3.out.ext HE5.out).ext (Ext.alloc _ _)) (ri1 W5 8 _)
  have HI2 : Hid (∀ w', Ext W5 w' → Calls Try.prog 19 #[.slice B' 1 l', .slice (some ⟨w'.heap.size, 0, none⟩) 1 1] (w'.alloc (.cells #[I 2147483647] 3)) fun e w'' => e = .returned (.bool true) ∧ Ext (w'.alloc (.cells #[I 2147483647] 3)) w'') := fun w' e =>
    ints_true (by omega) ((HRS.out.ext e).ext (Ext.alloc _ _)) (ri1 w' 2147483647 _)
  go_wp2_with (first
    | (go_at_call 19; (with_reducible refine HI1.out.mono ?_); rintro e w6 ⟨rfl, h6⟩; have HX6 := Lib.hid ((Ext.alloc W5 (.cells #[I 8] 3)).trans h6); have s1 : w6.cell? ⟨gs, 1, none⟩ = some (.slice B' 1 l') := (HS5.out.ext HX6.out).cell (by omega); have s2 : w6.cell? ⟨gs, 2, none⟩ = some (.bool true) := (HS5.out.ext HX6.out).cell (by omega); have ls : gs < w6.heap.size := (HS5.out.ext HX6.out).lt; clear h6)
    | (go_at_call 19; (with_reducible refine (HI2.out _ HX6.out).mono ?_); rintro e w7 ⟨rfl, h7⟩; have HX7 := Lib.hid ((Ext.alloc w6 (.cells #[I 2147483647] 3)).trans h7); clear h7))
  go_ret
  exact ⟨rfl, HE3.out.trans (HE5.out.trans (HX6.out.trans HX7.out))⟩
end Go.Proofs.Ytommlhdiefoocaa
