/- Programs of diagrams: Compile by the code. -/
import Derived.Test.YtkocmdpfknoiaaaGreatDoorKxj
namespace Go.Proofs.YtkocmdpfknoiaaaGreatDoor
open Go Go.RowKit Go.ChangeShapes Go.WideShapes

/-! ### Copies of ports -/
theorem infoPrt : (Tryz.prog.info? 47).map (fun i => (i.zero.map (fun z => z.cells.size), i.size, i.bytes)) = some (some 3, 3, 24) := by kernel_rfl
theorem infoPrt' : ∃ i z, Tryz.prog.info? 47 = some i ∧ i.zero = some z ∧ i.size = 3 ∧ i.bytes = 24 ∧ z.cells.size = 3 := by
  have h := infoPrt
  cases hi : Tryz.prog.info? 47 with
  | none => rw [hi] at h; cases h
  | some i =>
    rw [hi] at h
    simp only [Option.map_some, Option.some.injEq, Prod.mk.injEq] at h
    obtain ⟨h1, h2, h3⟩ := h
    cases hz : i.zero with
    | none => rw [hz] at h1; cases h1
    | some z =>
      rw [hz] at h1
      exact ⟨i, z, rfl, hz, h2, h3, by simpa using h1⟩
def pc3 (x : Prt) : List Value := [I x.lo, I x.hi, I x.fr]
def pvs (P : Nat → Prt) : Nat → List Value
  | 0 => []
  | n + 1 => pvs P n ++ pc3 (P n)
theorem pvs_len (P : Nat → Prt) (n : Nat) : (pvs P n).length = n * 3 := by
  induction n with
  | zero => rfl
  | succ n ih => show (pvs P n ++ pc3 (P n)).length = _; rw [List.length_append, ih]; show _ + 3 = _; omega
theorem pvs_get {P : Nat → Prt} {n i j : Nat} (hi : i < n) (hj : j < 3) : (pvs P n)[i * 3 + j]? = (pc3 (P i))[j]? := by
  induction n with
  | zero => omega
  | succ n ih =>
    show (pvs P n ++ pc3 (P n))[i * 3 + j]? = _
    by_cases e : i = n
    · subst e
      rw [List.getElem?_append_right (by rw [pvs_len]; omega), pvs_len]
      congr 1; omega
    · rw [List.getElem?_append_left (by rw [pvs_len]; omega)]; exact ih (by omega)
theorem pvs_one (P : Nat → Prt) (n : Nat) : ∀ u ∈ pvs P n, u.oneCell' = true := by
  induction n with
  | zero => intro u hu; cases hu
  | succ n ih =>
    intro u hu
    rcases List.mem_append.1 (show u ∈ pvs P n ++ pc3 (P n) from hu) with h | h
    · exact ih u h
    · simp only [pc3, List.mem_cons, List.not_mem_nil, or_false] at h
      rcases h with rfl | rfl | rfl <;> rfl
theorem rp_of_own {w : World} {base c n : Nat} {A : Option Addr} {P : Nat → Prt} (h : w.ownsRow base 47 3 (.slice A n c) n (pvs P n)) : Rp w A n P := fun h0 => by
  have h' := h
  obtain ⟨_, ⟨e, hz⟩ | ⟨g, cap, cur, e, _⟩⟩ := h'
  · omega
  · injection e with e1 e2 e3
    subst e1
    refine ⟨g, 0, rfl, (World.ownsRow.lt h g rfl).2, fun i hi => ?_⟩
    have hc : ∀ j, j < 3 → w.cell? ⟨g, i * 3 + j, none⟩ = (pc3 (P i))[j]? := fun j hj => by
      rw [World.ownsRow.cellAt h (i * 3 + j) (by omega)]; exact pvs_get hi hj
    simp only [Nat.zero_add]
    exact ⟨hc 0 (by omega), hc 1 (by omega), hc 2 (by omega)⟩
theorem rp_news {w : World} {b o n : Nat} {P : Nat → Prt} (hc : ∀ i, i < n → w.cell? ⟨b, o + i * 3, none⟩ = some (I (P i).lo) ∧ w.cell? ⟨b, o + i * 3 + 1, none⟩ = some (I (P i).hi) ∧ w.cell? ⟨b, o + i * 3 + 2, none⟩ = some (I (P i).fr)) :
    ∀ j u, (pvs P n)[j]? = some u → w.cell? ((⟨b, o, none⟩ : Addr).add j) = some u := fun j u hj => by
  have hjn : j < n * 3 := by
    rcases Nat.lt_or_ge j (n * 3) with h | h
    · exact h
    · rw [List.getElem?_eq_none (by rw [pvs_len]; exact h)] at hj; cases hj
  have hadd : (⟨b, o, none⟩ : Addr).add j = ⟨b, o + j, none⟩ := by unfold Addr.add; split <;> simp_all
  rw [hadd]
  obtain ⟨h0, h1, h2⟩ := hc (j / 3) (by omega)
  have hg := pvs_get (P := P) (n := n) (i := j / 3) (j := j % 3) (by omega) (by omega)
  rw [show j / 3 * 3 + j % 3 = j by omega, hj] at hg
  rcases (show j % 3 = 0 ∨ j % 3 = 1 ∨ j % 3 = 2 by omega) with m | m | m
  · rw [show o + j = o + j / 3 * 3 by omega, h0]; rw [m] at hg; exact hg.symm
  · rw [show o + j = o + j / 3 * 3 + 1 by omega, h1]; rw [m] at hg; exact hg.symm
  · rw [show o + j = o + j / 3 * 3 + 2 by omega, h2]; rw [m] at hg; exact hg.symm
def CpR (P : Nat → Prt) (n : Nat) (w : World) (e : Ending) (w' : World) : Prop := ∃ B k, e = .returned (.slice B n k) ∧ Rp w' B n P ∧ (∀ b o, B = some ⟨b, o, none⟩ → w.heap.size ≤ b) ∧ Ext w w'
set_option maxRecDepth 100000 in
set_option maxHeartbeats 1000000 in
theorem cloneP_any {w : World} {A : Option Addr} {n c : Nat} {P : Nat → Prt} (r : Rp w A n P) (h0 : A = none → c = 0) (hn : n ≤ 1000) : Calls Tryz.prog 36 #[.slice A n c] w (CpR P n w) := by
  have hnil : ∀ (w : World) (a : Option Addr) (n c n' c' : Nat), (binOp .eql 22 (.slice a n c) (.slice none n' c')).run Tryz.prog w = .ok (.bool a.isNone) w := fun w a n c n' c' => Lib.run_eql_slice_nil w _ _ a n c n' c' Tryz.underlying22
  obtain ⟨i, z, hi, hz, hsz, hby, hzc⟩ := infoPrt'
  have HO : Hid ((w.alloc (.cells #[] 47)).ownsRow w.heap.size 47 3 (.slice (some ⟨w.heap.size, 0, none⟩) 0 0) 0 []) := World.ownsRow_made w #[] 0 (Nat.le_refl _) (Nat.zero_le _) rfl
  rcases Nat.eq_zero_or_pos n with hn0 | hn0
  · subst hn0
    cases A with
    | none =>
      clear r HO
      go_enter Tryz.func36, Tryz.ntmps36
      go_wp2_with fail
      go_ret
      exact ⟨none, 0, rfl, fun h => absurd h (by omega), fun b o e => (by cases e), Ext.refl _⟩
    | some ad =>
      clear r h0
      go_enter Tryz.func36, Tryz.ntmps36
      go_wp2_with fail
      go_ret
      exact ⟨some ⟨w.heap.size, 0, none⟩, 0, rfl, fun h => absurd h (by omega), fun b o e => (by injection e with e; injection e with e1 e2; omega), Ext.alloc _ _⟩
  · obtain ⟨b, o, rfl, hb, hc⟩ := r hn0
    have HN : Hid (∀ j u, (pvs P n)[j]? = some u → (w.alloc (.cells #[] 47)).cell? ((⟨b, o, none⟩ : Addr).add j) = some u) :=
      rp_news fun i hi => ⟨((Ext.alloc w _).old.1 _ _ hb).trans (hc i hi).1, ((Ext.alloc w _).old.1 _ _ hb).trans (hc i hi).2.1, ((Ext.alloc w _).old.1 _ _ hb).trans (hc i hi).2.2⟩
    clear hc r
    go_enter Tryz.func36, Tryz.ntmps36
    go_wp2_with (at_builtin; refine wpList_append_lies _ rfl _ _ _ rfl w.heap.size 47 i z 3 24 Tryz.underlying22 hi hz hsz hby hzc (by omega) _ 0 [] rfl HO.out ⟨b, o, none⟩ n c (pvs P n) rfl (pvs_len _ _) HN.out (pvs_one _ _) hn0 (by unfold maxLen; omega) (by omega) (by simp) _ rfl ?_; intro g cap w1 hown hgrow hat hlt; have O1 := Lib.hid hown; have G1 := Lib.hid hgrow; clear hown hgrow hat)
    go_ret
    have o1 := O1.out
    rw [Nat.zero_add, List.nil_append] at o1
    exact ⟨_, cap, by simp, rp_of_own o1, fun b' o' e => (by injection e with e; injection e with e1 e2; subst e1; exact (World.ownsRow.lt o1 g rfl).1), Below.grown (Ext.alloc w _) G1.out (by simp) (fun k hk => by have hk' : w.heap.size = k := Option.some.inj hk; omega)⟩
/-! ### Shifts that are too far -/
set_option maxRecDepth 100000 in
set_option maxHeartbeats 1000000 in
theorem tooFar_any (x : Ins) (w : World) : Calls Tryz.prog 41 #[insV x] w fun e w' => e = .returned (.bool (!shE x)) ∧ Ext w w' := by
  obtain ⟨op, dst, a, b, sa, sb, im⟩ := x
  show Calls Tryz.prog 41 #[.agg #[I op, I dst, I a, I b, I sa, I sb, I im]] w fun e w' => e = .returned (.bool (!(shB sa && shB sb))) ∧ Ext w w'
  have HA := Lib.hid (isShiftX_any sa)
  have HB := Lib.hid (isShiftX_any sb)
  obtain ⟨W1, hW1⟩ : ∃ W1, W1 = w.alloc (.cells #[I op, I dst, I a, I b, I sa, I sb, I im] 83) := ⟨_, rfl⟩
  have HX : Hid (BI7 W1 w.heap.size ⟨op, dst, a, b, sa, sb, im⟩) := by rw [hW1]; exact BI7.new w ⟨op, dst, a, b, sa, sb, im⟩ _
  have HE : Hid (Ext w W1) := by rw [hW1]; exact Ext.alloc _ _
  obtain ⟨c0, c1, c2, c3, c4, c5, c6⟩ := HX.out
  generalize shB sb = qb at *
  generalize shB sa = qa at *
  cases qa
  all_goals
    go_enter Tryz.func41, Tryz.ntmps41
    go_upto_region 1 with fail
    rw [← hW1]; clear hW1
    go_wp2_with (first
      | (go_at_call 92; (with_reducible refine (HA.out _).mono ?_); rintro e w1 ⟨rfl, hb1⟩; have XA := Lib.hid hb1; clear hb1 c0 c1 c2 c3 c4 c5 c6; obtain ⟨c0, c1, c2, c3, c4, c5, c6⟩ := HX.out.ext XA.out)
      | (go_at_call 92; (with_reducible refine (HB.out _).mono ?_); rintro e w2 ⟨rfl, hb2⟩; have XB := Lib.hid hb2; clear hb2))
    go_ret
    exact ⟨rfl, by first | exact HE.out.trans (XA.out.trans XB.out) | exact HE.out.trans XA.out⟩
set_option maxRecDepth 100000 in
set_option maxHeartbeats 1000000 in
theorem indexX_any (A : Option Addr) (n c : Nat) (X : Nat → Ins) (w : World) (r : Rx w A n X) (hn : n ≤ 100000) :
    Calls Tryz.prog 91 #[.slice A n c, .func (.func 41) #[] #[]] w fun e w' => e = .returned (I (fstI n (fun i => !shE (X i)))) ∧ Ext w w' := by
  have R := Lib.hid r; clear r
  go_enter Tryz.func91, Tryz.ntmps91
  go_wp2
  go_loopw [8] (fun s wr => ∃ j : Nat, j ≤ n ∧ s = I j ∧ Ext w wr ∧ Hid (∀ i, i < j → (!shE (X i)) = false)) (fun s _ => n - (intOf s).toNat)
  case atStart => exact ⟨0, Nat.zero_le _, rfl, Ext.refl _, fun i hi => absurd hi (by omega)⟩
  case round =>
    obtain ⟨j, hj, rfl, hb, HG⟩ := hrel
    by_cases hlt : j < n
    · obtain ⟨b, o, rfl, hba, ca⟩ := R.out.ext hb (by omega)
      obtain ⟨x0, x1, x2, x3, x4, x5, x6⟩ := ca j hlt
      have HC := Lib.hid (fun w' => tooFar_any (X j) w')
      have hlt' : (j : Int) < (n : Int) := by omega
      clear ca
      cases hq : !shE (X j) with
      | true =>
        rw [hq] at HC
        have HR := Lib.hid (fstI_hit (q := fun i => !shE (X i)) HG.out hlt hq)
        clear hq
        go_wp2_with (go_at_call 41; (with_reducible refine (HC.out _).mono ?_); rintro e w1 ⟨rfl, hb1⟩; replace hb := Ext.trans hb hb1; clear hb1)
        go_ret
        exact ⟨by rw [HR.out]; rfl, hb⟩
      | false =>
        rw [hq] at HC
        have HG2 : Hid (∀ i, i < j + 1 → (!shE (X i)) = false) := fun i hi => by
          by_cases h : i = j
          · subst h; exact hq
          · exact HG.out i (by omega)
        clear hq
        go_wp2_with (go_at_call 41; (with_reducible refine (HC.out _).mono ?_); rintro e w1 ⟨rfl, hb1⟩; replace hb := Ext.trans hb hb1; clear hb1)
        go_roundw
        case rel => exact ⟨j + 1, by omega, by go_num, hb, HG2⟩
        case measure => simp [intOf]; omega
    · obtain rfl : j = n := by omega
      have HR := Lib.hid (fstI_none (q := fun i => !shE (X i)) HG.out)
      go_wp2
      go_ret
      exact ⟨by rw [HR.out]; rfl, hb⟩
set_option maxRecDepth 100000 in
set_option maxHeartbeats 1000000 in
theorem containsX_any (A : Option Addr) (n c : Nat) (X : Nat → Ins) (w : World) (r : Rx w A n X) (hn : n ≤ 100000) :
    Calls Tryz.prog 40 #[.slice A n c, .func (.func 41) #[] #[]] w fun e w' => e = .returned (.bool (!allN n (fun i => shE (X i)))) ∧ Ext w w' := by
  have HC := Lib.hid (indexX_any A n c X w r hn)
  clear r
  have HV : Hid ((!allN n (fun i => shE (X i))) = decide (0 ≤ fstI n (fun i => !shE (X i)))) := by
    show _ = _; rw [anyN_all, Bool.not_not]; rfl
  rw [HV.out]; clear HV
  generalize fstI n (fun i => !shE (X i)) = z at *
  by_cases h : 0 ≤ z
  all_goals
    go_enter Tryz.func40, Tryz.ntmps40
    go_wp2_with (go_at_call 91; refine HC.out.mono ?_; rintro e w1 ⟨rfl, hb1⟩)
    go_ret
    exact ⟨by simp [h], hb1⟩
/-! ### Compile -/
/-- What Compile is asked. -/
def pg0 : Value := .agg #[.slice none 0 0, .slice none 0 0, .slice none 0 0, .slice none 0 0]
structure W4 (w : World) (g : Nat) (v0 v1 v2 v3 : Value) : Prop where
  r0 : w.cell? ⟨g, 0, none⟩ = some v0
  r1 : w.cell? ⟨g, 1, none⟩ = some v1
  r2 : w.cell? ⟨g, 2, none⟩ = some v2
  r3 : w.cell? ⟨g, 3, none⟩ = some v3
  rf : ∀ j, w.frozen? ⟨g, j, none⟩ = false
def b4 (v0 v1 v2 v3 : Value) (j : Nat) : Value := if j = 0 then v0 else if j = 1 then v1 else if j = 2 then v2 else v3
theorem W4.of {w : World} {g : Nat} {t : TypeId} {v0 v1 v2 v3 : Value} (h : w.rowIs g t 4 (b4 v0 v1 v2 v3)) : W4 w g v0 v1 v2 v3 :=
  ⟨h.cell (by omega), h.cell (by omega), h.cell (by omega), h.cell (by omega), h.frozen⟩
theorem ret4 {w : World} {g : Nat} {t : TypeId} {f : Nat → Value} (h : w.rowIs g t 4 f) (v0 v1 v2 v3 : Value) {W : World}
    (hW : W = (((w.setCell ⟨g, 0, none⟩ v0).setCell ⟨g, 1, none⟩ v1).setCell ⟨g, 2, none⟩ v2).setCell ⟨g, 3, none⟩ v3) :
    W.cell? ⟨g, 0, none⟩ = some v0 ∧ W.cell? ⟨g, 1, none⟩ = some v1 ∧ W.cell? ⟨g, 2, none⟩ = some v2 ∧ W.cell? ⟨g, 3, none⟩ = some v3 := by
  have q := (((h.set 0 v0).set 1 v1).set 2 v2).set 3 v3
  rw [← hW] at q
  exact ⟨q.cell (by omega), q.cell (by omega), q.cell (by omega), q.cell (by omega)⟩
theorem set4_ext {w W : World} {g : Nat} (e : Ext w W) (h : w.heap.size ≤ g) (v0 v1 v2 v3 : Value) : Ext w ((((W.setCell ⟨g, 0, none⟩ v0).setCell ⟨g, 1, none⟩ v1).setCell ⟨g, 2, none⟩ v2).setCell ⟨g, 3, none⟩ v3) :=
  (((e.toSet h).toSet h).toSet h).toSet h
theorem cm_boxes (w : World) (D : Dia) (p : Pl) {W0 W1 : World} (h0 : W0 = w.alloc (.cells #[.slice p.AI D.ni p.cI, .slice p.AB D.nb p.cB, .slice p.AO D.no p.cO] 26))
    (h : W1 = W0.alloc (.cells #[.slice none 0 0, .slice none 0 0, .slice none 0 0, .slice none 0 0] 31)) :
    Bd W0 w.heap.size D p ∧ Ext w W0 ∧ W0.heap.size = w.heap.size + 1 ∧ Ext W0 W1 ∧ W1.rowIs (w.heap.size + 1) 31 4 (fun _ => .slice none 0 0) := by
  have hz : W0.heap.size = w.heap.size + 1 := by rw [h0]; simp
  refine ⟨by rw [h0]; exact Bd.new _ _ _ _, by rw [h0]; exact Ext.alloc _ _, hz, by rw [h]; exact Ext.alloc _ _, ?_⟩
  rw [h]
  have := World.rowIs_alloc W0 #[.slice none 0 0, .slice none 0 0, .slice none 0 0, .slice none 0 0] 31 (fun _ => .slice none 0 0) (fun i hi => by
    rcases (show i = 0 ∨ i = 1 ∨ i = 2 ∨ i = 3 by simp at hi; omega) with h | h | h | h <;> subst h <;> rfl)
  rwa [hz] at this
def CmE (k : Int) (w : World) (e : Ending) (w' : World) : Prop := e = .returned (.tuple #[.agg #[.slice none 0 0, .slice none 0 0, .slice none 0 0, .slice none 0 0], .iface 94 (I k)]) ∧ Ext w w'
set_option maxRecDepth 100000 in
set_option maxHeartbeats 1000000 in
theorem cm_err {w : World} {D : Dia} {p : Pl} {m cf : Nat} {Af : Option Addr} {k : Int} (hp : ∀ w', Ext w w' → Calls Tryz.prog 35 #[dgv D p, .slice Af m cf] w' (PrE k w')) : Calls Tryz.prog 9 #[dgv D p, .slice Af m cf] w (CmE k w) := by
  have HP := Lib.hid hp; clear hp
  obtain ⟨W0, hW0⟩ : ∃ W0, W0 = w.alloc (.cells #[.slice p.AI D.ni p.cI, .slice p.AB D.nb p.cB, .slice p.AO D.no p.cO] 26) := ⟨_, rfl⟩
  obtain ⟨W1, hW1⟩ : ∃ W1, W1 = W0.alloc (.cells #[.slice none 0 0, .slice none 0 0, .slice none 0 0, .slice none 0 0] 31) := ⟨_, rfl⟩
  obtain ⟨hbd, hx0, hz0, hx1, hrow⟩ := cm_boxes w D p hW0 hW1
  have HBD := Lib.hid hbd; have HX0 := Lib.hid hx0; have HX1 := Lib.hid hx1; have HROW := Lib.hid hrow
  have hs1 := hx1.size
  clear hbd hx0 hrow hx1
  go_enter Tryz.func9, Tryz.ntmps9
  go_upto_region 1 with fail
  rw [← hW0, ← hW1]; clear hW0 hW1
  obtain ⟨c0, c1, c2⟩ := HBD.out.ext HX1.out
  go_upto_region 2 with (go_at_call 35; (with_reducible refine (HP.out _ (HX0.out.trans HX1.out)).mono ?_); rintro e1 w1 ⟨⟨s0, s1, s2, s3, s4, s5, s6, s7, rfl⟩, h1⟩; have XP := Lib.hid h1; clear h1 c0 c1 c2)
  have XL := Lib.hid (XP.out.trans (Ext.alloc w1 (.cells #[.slice s0.A s0.n s0.c, .slice s1.A s1.n s1.c, .slice s2.A s2.n s2.c, .slice s3.A s3.n s3.c, .slice s4.A s4.n s4.c, .slice s5.A s5.n s5.c, .slice s6.A s6.n s6.c, .slice s7.A s7.n s7.c] 85)))
  generalize w1.alloc (.cells #[.slice s0.A s0.n s0.c, .slice s1.A s1.n s1.c, .slice s2.A s2.n s2.c, .slice s3.A s3.n s3.c, .slice s4.A s4.n s4.c, .slice s5.A s5.n s5.c, .slice s6.A s6.n s6.c, .slice s7.A s7.n s7.c] 85) = w2 at *
  obtain ⟨r0, r1, r2, r3, rf⟩ := W4.of ((World.rowIs.ext HROW.out XL.out).congr (g := b4 (.slice none 0 0) (.slice none 0 0) (.slice none 0 0) (.slice none 0 0)) (fun i hi => by unfold b4; simp only [ite_self]))
  go_wp2_with fail
  obtain ⟨W6, hW6⟩ : ∃ W6, W6 = (((w2.setCell ⟨w.heap.size + 1, 0, none⟩ (.slice none 0 0)).setCell ⟨w.heap.size + 1, 1, none⟩ (.slice none 0 0)).setCell ⟨w.heap.size + 1, 2, none⟩ (.slice none 0 0)).setCell ⟨w.heap.size + 1, 3, none⟩ (.slice none 0 0) := ⟨_, rfl⟩
  obtain ⟨q0, q1, q2, q3⟩ := ret4 (World.rowIs.ext HROW.out XL.out) _ _ _ _ hW6
  have HE := Lib.hid (set4_ext (HX1.out.trans XL.out) (g := w.heap.size + 1) (by omega) (.slice none 0 0) (.slice none 0 0) (.slice none 0 0) (.slice none 0 0))
  rw [← hW6] at HE
  rw [← hW6]; clear hW6 r0 r1 r2 r3 rf
  exact bodyPost_ret (v := .tuple #[.agg #[.slice none 0 0, .slice none 0 0, .slice none 0 0, .slice none 0 0], .iface 94 (I k)]) (by simp [results, Tryz.results9, go_sem, q0, q1, q2, q3]) rfl ⟨rfl, HX0.out.trans HE.out⟩
end Go.Proofs.YtkocmdpfknoiaaaGreatDoor
