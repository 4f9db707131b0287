/- Numbers as structs: normal. -/
import Derived.Test.YtommlhdiefoocaaMnat
import Derived.Test.YtommlhdiefoocaaMbig
import Derived.Deep.DeepCutAuto
import Derived.Deep.DrawnRows
namespace Go.Proofs.Ytommlhdiefoocaa

/-! ### Mdy -/
section
/-! ### Dy -/
section
open Go.RowKit

abbrev dv (neg : Bool) (A : Option Addr) (n c : Nat) (den : Int) : Value := .agg #[.bool neg, .slice A n c, I den]
/-- What a function on numbers returns: new memory that reads as d. -/
def DyRes (d : DV) (w : World) (e : Ending) (w' : World) : Prop := ∃ A c, e = .returned (dv d.neg A (len d.m) c d.den) ∧ On w' w.heap.size A (len d.m) c (dg d.m) ∧ Ext w w'
theorem DyRes.zero {w w' : World} (h : Ext w w') : DyRes DV.zero w (.returned (dv false none 0 0 0)) w' :=
  ⟨none, 0, by show _ = Ending.returned (dv false none (len 0) 0 0); rw [len_zero], by show On _ _ _ (len 0) 0 _; rw [len_zero]; exact On.nil _ _ _, h⟩

theorem DyRes.of {d : DV} {neg : Bool} {x t c b : Nat} {A : Option Addr} {w w' : World} (hd : d = ⟨neg, x, t⟩) (hr : On w' b A (len x) c (dg x)) (hb : w.heap.size ≤ b) (hx : Ext w w') : DyRes d w (.returned (dv neg A (len x) c t)) w' := by
  subst hd; exact ⟨A, c, rfl, hr.mono hb, hx⟩
theorem fr_set (w : World) (g i : Nat) (u : Value) : w.grownBy (w.setCell ⟨g, i, none⟩ u) (some g) :=
  ⟨rfl, rfl, rfl, by simp, fun k _ hk => Below.heap_setCell w _ u k (fun e => hk (by simp [e]))⟩
theorem Rd.set {w : World} {A : Option Addr} {n g : Nat} {f : Nat → Nat} (h : Rd w A n f) (hne : ∀ a, A = some a → a.block ≠ g) (i : Nat) (u : Value) : Rd (w.setCell ⟨g, i, none⟩ u) A n f := h.fr (fr_set w g i u) hne
theorem On.ne {w : World} {base n c g : Nat} {A : Option Addr} {f : Nat → Nat} (h : On w base A n c f) (hg : g < base) : ∀ a, A = some a → a.block ≠ g := by
  rintro a rfl
  obtain ⟨e, _⟩ | ⟨g', e, hr⟩ := h.cases
  · cases e
  · injection e with e; subst e; have := hr.lt.1; show g' ≠ g; omega

theorem On.base1 {w w0 : World} {o : Obj} {n c : Nat} {A : Option Addr} {f : Nat → Nat} (h : On w (w0.alloc o).heap.size A n c f) : On w (w0.heap.size + 1) A n c f := by
  rw [show (w0.alloc o).heap.size = w0.heap.size + 1 by simp] at h; exact h
theorem On.set {w : World} {b n c g : Nat} {A : Option Addr} {f : Nat → Nat} (h : On w b A n c f) (hg : g < b) (i : Nat) (u : Value) : On (w.setCell ⟨g, i, none⟩ u) b A n c f := by
  refine World.ownsRow.kept h (fr_set w g i u) ?_
  obtain ⟨rfl, _⟩ | ⟨g', rfl, hr⟩ := h.cases
  · exact .inl rfl
  · refine .inr ?_
    have := hr.lt.1
    simp [Value.ownBlock]; omega

def nrmI (neg : Bool) (m : Nat) (den : Int) : DV := if den < 0 then mkD neg (m * 2 ^ (-den).toNat) 0 else mkD neg m den.toNat
theorem nrmI_neg {neg : Bool} {m : Nat} {k : Nat} (h : 0 < k) : nrmI neg m (-(k : Int)) = mkD neg (m * 2 ^ k) 0 := by
  unfold nrmI; rw [if_pos (by omega)]; simp
theorem nrmI_nat {neg : Bool} {m : Nat} {k : Nat} : nrmI neg m (k : Int) = mkD neg m k := by
  unfold nrmI; rw [if_neg (by omega)]; simp
theorem nrmI_zero {neg : Bool} {den : Int} : nrmI neg 0 den = DV.zero := by
  unfold nrmI mkD
  split
  · rw [if_pos (by decide), Nat.zero_mul, nrm_zero]
  · split
    · rw [nrm_zero]
    · rw [Nat.zero_div, nrm_zero]
theorem nrm0 {neg : Bool} {m : Nat} (h : m ≠ 0) : nrm neg m 0 = ⟨neg, m, 0⟩ := by rw [nrm_pos _ _ h]; simp [hv]

end

/-! ### Dyb -/
section
open Go.RowKit

end

/-! ### Dyc -/
section
open Go.RowKit

def vld (neg : Bool) (n : Nat) (f : Nat → Nat) (den : Int) : Bool :=
  if n = 0 then !neg && decide (den = 0) else decide (f (n - 1) ≠ 0) && decide (0 ≤ den) && decide (den ≤ 65536) && (decide (den = 0) || decide (f 0 % 2 = 1))
theorem vld_zero (neg : Bool) (f : Nat → Nat) (den : Int) : vld neg 0 f den = (!neg && decide (den = 0)) := by unfold vld; rw [if_pos rfl]
theorem vld_succ (neg : Bool) (n : Nat) (f : Nat → Nat) (den : Int) : vld neg (n + 1) f den = (decide (f n ≠ 0) && decide (0 ≤ den) && decide (den ≤ 65536) && (decide (den = 0) || decide (f 0 % 2 = 1))) := by unfold vld; rw [if_neg (by omega)]; rfl

def VldRes (b : Bool) (w : World) (e : Ending) (w' : World) : Prop := e = .returned (.bool b) ∧ Ext w w'
def NumRes (v : Value) (w : World) (e : Ending) (w' : World) : Prop := e = .returned v ∧ Ext w w'
end

/-! ### Dyd -/
section
open Go.RowKit

set_option maxRecDepth 100000 in
set_option maxHeartbeats 1000000 in
theorem rvalid_any (neg : Bool) (A : Option Addr) (n c : Nat) (den : Int) (f : Nat → Nat) (w : World) (hr : Rd w A n f) (hb : ∀ i, i < n → f i < 4294967296) (hn : n ≤ 1073741824) :
    Calls Try.prog 85 #[dv neg A n c den] w (VldRes (vld neg n f den) w) := by
  have HR := Lib.hid hr; clear hr
  cases n with
  | zero =>
    rw [vld_zero]
    cases neg with
    | true =>
      go_enter Try.func85, Try.ntmps85
      go_wp2
      go_ret
      exact ⟨by simp, Ext.alloc _ _⟩
    | false =>
      by_cases h : den = 0
      · subst h
        go_enter Try.func85, Try.ntmps85
        go_wp2
        go_ret
        exact ⟨by simp, Ext.alloc _ _⟩
      · have h1 : (den == 0) = false := by simpa using h
        have HV : Hid ((!false && decide (den = 0)) = false) := by simp [h, Hid]
        clear h
        rw [HV.out]
        go_enter Try.func85, Try.ntmps85
        go_wp2
        go_ret
        exact ⟨by simp, Ext.alloc _ _⟩
  | succ k =>
    rw [vld_succ]
    obtain ⟨b, o, rfl, hbw, hc⟩ := HR.out (by omega)
    have c1 := hc k (by omega)
    have c0 := hc 0 (by omega)
    rw [Nat.add_zero] at c0
    have hx := hb k (by omega)
    have hy := hb 0 (by omega)
    clear hc hb HR
    generalize f k = x at *
    generalize f 0 = y at *
    have hbn : b ≠ w.heap.size := by omega
    have hbl : b < w.heap.size + 1 := by omega
    by_cases h0 : x = 0
    · subst h0
      go_enter Try.func85, Try.ntmps85
      go_wp2
      go_ret
      exact ⟨by simp, Ext.alloc _ _⟩
    · have h1 : ((x : Int) == 0) = false := by simp; omega
      have h1n : ((x : Int) != 0) = true := by simp; omega
      by_cases hg : 0 ≤ den ∧ den ≤ 65536
      · obtain ⟨g0, g1⟩ := hg
        by_cases hd : den = 0
        · subst hd
          have HV : Hid ((decide (x ≠ 0) && decide ((0 : Int) ≤ 0) && decide ((0 : Int) ≤ 65536) && (decide ((0 : Int) = 0) || decide (y % 2 = 1))) = true) := by simp [h0, Hid]
          rw [HV.out]
          clear HV h0
          go_enter Try.func85, Try.ntmps85
          go_wp2
          go_ret
          exact ⟨by simp, Ext.alloc _ _⟩
        · have hd1 : (den == 0) = false := by simpa using hd
          by_cases hy1 : y % 2 = 1
          · have hy2 : (y : Int) % 2 = 1 := by omega
            have HV : Hid ((decide (x ≠ 0) && decide (0 ≤ den) && decide (den ≤ 65536) && (decide (den = 0) || decide (y % 2 = 1))) = true) := by simp [h0, Hid, g0, g1, hy1]
            rw [HV.out]
            clear HV h0 hd hy1
            go_enter Try.func85, Try.ntmps85
            go_wp2
            go_ret
            exact ⟨by simp, Ext.alloc _ _⟩
          · have hy2 : (y : Int) % 2 = 0 := by omega
            have HV : Hid ((decide (x ≠ 0) && decide (0 ≤ den) && decide (den ≤ 65536) && (decide (den = 0) || decide (y % 2 = 1))) = false) := by simp [Hid, hy1, hd]
            rw [HV.out]
            clear HV h0 hd hy1
            go_enter Try.func85, Try.ntmps85
            go_wp2
            go_ret
            exact ⟨by simp, Ext.alloc _ _⟩
      · have hg' : den < 0 ∨ 65536 < den := by omega
        have HV : Hid ((decide (x ≠ 0) && decide (0 ≤ den) && decide (den ≤ 65536) && (decide (den = 0) || decide (y % 2 = 1))) = false) := by
          show _ = _
          rcases hg' with h | h
          · simp [show ¬ 0 ≤ den by omega]
          · simp [show ¬ den ≤ 65536 by omega]
        rw [HV.out]
        clear HV h0 hg
        rcases hg' with g | g
        · have g2 : ¬ 0 ≤ den := by omega
          go_enter Try.func85, Try.ntmps85
          go_wp2
          go_ret
          exact ⟨by simp, Ext.alloc _ _⟩
        · have g2 : ¬ den ≤ 65536 := by omega
          have g3 : 0 ≤ den := by omega
          go_enter Try.func85, Try.ntmps85
          go_wp2
          go_ret
          exact ⟨by simp, Ext.alloc _ _⟩

set_option maxRecDepth 100000 in
set_option maxHeartbeats 1000000 in
theorem norm_t (neg : Bool) (A : Option Addr) (n c : Nat) (den : Int) (f : Nat → Nat) (w : World) (hr : Rd w A n f) (hb : ∀ i, i < n → f i < 4294967296) (hn : n ≤ 1073741824) (hv : vld neg n f den = true) :
    Calls Try.prog 70 #[dv neg A n c den] w (NumRes (dv neg A n c den) w) := by
  have HV : Hid (∀ w', Ext w w' → Calls Try.prog 85 #[dv neg A n c den] w' (VldRes true w')) := fun w' e => hv ▸ rvalid_any neg A n c den f w' (hr.ext e) hb hn
  clear hr hb hv hn
  go_enter Try.func70, Try.ntmps70
  go_wp2_with (go_at_call 85; refine (HV.out _ ((Ext.alloc _ _).trans (Ext.alloc _ _))).mono ?_; rintro e w1 ⟨rfl, hx⟩; obtain ⟨hc, hf⟩ := hx.old; have HX := Lib.hid hx; clear hx)
  exact bodyPost_ret (v := dv neg A n c den) (by simp [results, Try.results70, go_sem, hc]) rfl ⟨rfl, by repeat (first | exact ((Ext.alloc _ _).trans (Ext.alloc _ _)).trans HX.out | refine Ext.set ?_ (by simp) _)⟩
set_option maxRecDepth 100000 in
set_option maxHeartbeats 1000000 in
theorem norm_f (neg : Bool) (A : Option Addr) (n c : Nat) (den : Int) (f : Nat → Nat) (w : World) (hr : Rd w A n f) (hb : ∀ i, i < n → f i < 4294967296) (hn : n ≤ 1073741824) (hv : vld neg n f den = false) :
    Calls Try.prog 70 #[dv neg A n c den] w (NumRes (dv false none 0 0 0) w) := by
  have HV : Hid (∀ w', Ext w w' → Calls Try.prog 85 #[dv neg A n c den] w' (VldRes false w')) := fun w' e => hv ▸ rvalid_any neg A n c den f w' (hr.ext e) hb hn
  clear hr hb hv hn
  go_enter Try.func70, Try.ntmps70
  go_wp2_with (go_at_call 85; refine (HV.out _ ((Ext.alloc _ _).trans (Ext.alloc _ _))).mono ?_; rintro e w1 ⟨rfl, hx⟩; obtain ⟨hc, hf⟩ := hx.old; have HX := Lib.hid hx; clear hx)
  exact bodyPost_ret (v := dv false none 0 0 0) (by simp [results, Try.results70, go_sem, hc]) rfl ⟨rfl, by repeat (first | exact ((Ext.alloc _ _).trans (Ext.alloc _ _)).trans HX.out | refine Ext.set ?_ (by simp) _)⟩
end

/-! ### Dye -/
section
open Go.RowKit

/-- The struct of these fields counts as the number d, which lies at A'. -/
structure Dy (w : World) (neg : Bool) (A : Option Addr) (n c : Nat) (den : Int) (d : DV) (A' : Option Addr) (c' : Nat) : Prop where
  rd : Rd w A' (len d.m) (dg d.m)
  sl : SlOk A' (len d.m) c'
  wf : d.ok
  lim : len d.m ≤ 16777216
  norm : ∀ w', Ext w w' → Calls Try.prog 70 #[dv neg A n c den] w' (NumRes (dv d.neg A' (len d.m) c' d.den) w')
theorem Dy.ext {w w' : World} {neg : Bool} {A A' : Option Addr} {n c c' : Nat} {den : Int} {d : DV} (h : Dy w neg A n c den d A' c') (e : Ext w w') : Dy w' neg A n c den d A' c' :=
  ⟨h.rd.ext e, h.sl, h.wf, h.lim, fun w'' e' => h.norm w'' (e.trans e')⟩
theorem vld_ok {d : DV} (h : d.ok) : vld d.neg (len d.m) (dg d.m) d.den = true := by
  obtain ⟨h1, h2, h3⟩ := h
  by_cases h0 : d.m = 0
  · obtain ⟨e1, e2⟩ := h1 h0
    rw [h0, len_zero, vld_zero, e1, e2]; rfl
  · have ht := dg_top h0
    unfold vld
    rw [if_neg (fun e => h0 (len_eq_zero.1 e)), dg_zero]
    by_cases hd : d.den = 0
    · simp [ht, hd]
    · have := h3 (by omega)
      simp [ht]
      exact ⟨by omega, .inr (by omega)⟩
theorem Dy.valid {w : World} {d : DV} {A : Option Addr} {c : Nat} (hr : Rd w A (len d.m) (dg d.m)) (ok : SlOk A (len d.m) c) (wf : d.ok) (hl : len d.m ≤ 16777216) : Dy w d.neg A (len d.m) c d.den d A c :=
  ⟨hr, ok, wf, hl, fun w' e => norm_t _ _ _ _ _ _ _ (hr.ext e) (wf_dg d.m) (by omega) (vld_ok wf)⟩
def nrA (neg : Bool) (n : Nat) (f : Nat → Nat) (den : Int) : DV := if vld neg n f den = true then ⟨neg, valN f n, den.toNat⟩ else DV.zero
theorem zero_len : len DV.zero.m = 0 := len_zero
theorem Dy.any {w : World} {neg : Bool} {A : Option Addr} {n c : Nat} {den : Int} {f : Nat → Nat} (hr : Rd w A n f) (ok : SlOk A n c) (hb : ∀ i, i < n → f i < 4294967296) (hn : n ≤ 16777216) :
    Dy w neg A n c den (nrA neg n f den) (if vld neg n f den = true then A else none) (if vld neg n f den = true then c else 0) := by
  by_cases hv : vld neg n f den = true
  · have e : nrA neg n f den = ⟨neg, valN f n, den.toNat⟩ := by unfold nrA; rw [if_pos hv]
    rw [if_pos hv, if_pos hv, e]
    have hl : len (valN f n) = n := by
      refine len_valN hb (Nat.le_refl _) (fun i h1 h2 => by omega) ?_
      cases n with
      | zero => exact .inl rfl
      | succ k => rw [vld_succ] at hv; simp at hv; exact .inr (by simpa using hv.1.1.1)
    have hd : 0 ≤ den ∧ den ≤ 65536 ∧ (n = 0 → neg = false ∧ den = 0) ∧ (0 < den → f 0 % 2 = 1) := by
      cases n with
      | zero => rw [vld_zero] at hv; simp at hv; exact ⟨by omega, by omega, fun _ => hv, fun h => by omega⟩
      | succ k => rw [vld_succ] at hv; simp at hv; exact ⟨hv.1.1.2, hv.1.2, fun h => by omega, fun h => by omega⟩
    obtain ⟨d0, d1, d2, d3⟩ := hd
    have ed : ((den.toNat : Nat) : Int) = den := by omega
    refine ⟨?_, ?_, ⟨?_, ?_, ?_⟩, ?_, ?_⟩
    · show Rd w A (len (valN f n)) _
      rw [hl]; exact hr.congr fun i hi => (dg_valN hb hi).symm
    · show SlOk A (len (valN f n)) c
      rw [hl]; exact ok
    · intro h0
      have h0' : valN f n = 0 := h0
      have : n = 0 := by rw [h0', len_zero] at hl; exact hl.symm
      have := d2 this
      exact ⟨this.1, by show den.toNat = 0; omega⟩
    · show den.toNat ≤ 65536; omega
    · intro h0
      have h0' : 0 < den.toNat := h0
      have h1 := d3 (by omega)
      have hn0 : 0 < n := by
        rcases Nat.eq_zero_or_pos n with h | h
        · have := (d2 h).2; omega
        · exact h
      have := dg_valN hb hn0
      rw [dg_zero] at this
      show valN f n % 2 = 1
      omega
    · show len (valN f n) ≤ _
      omega
    · intro w' e'
      show Calls _ _ _ _ (NumRes (dv neg A (len (valN f n)) c ((den.toNat : Nat) : Int)) w')
      rw [hl, ed]; exact norm_t _ _ _ _ _ _ _ (hr.ext e') hb (by omega) hv
  · have hv' : vld neg n f den = false := by simpa using hv
    have e : nrA neg n f den = DV.zero := by unfold nrA; rw [if_neg hv]
    rw [if_neg hv, if_neg hv, e]
    refine ⟨by rw [zero_len]; exact Rd.none_, by rw [zero_len]; exact ⟨Nat.le_refl _, Nat.zero_le _, fun _ => ⟨rfl, rfl⟩⟩, DV.zero_ok, by rw [zero_len]; omega, ?_⟩
    · intro w' e'
      rw [zero_len]; exact norm_f _ _ _ _ _ _ _ (hr.ext e') hb (by omega) hv'
theorem Dy.zero (w : World) : Dy w false none 0 0 0 DV.zero none 0 := by
  have := Dy.valid (w := w) (d := DV.zero) (A := none) (c := 0) (by rw [zero_len]; exact Rd.none_) (by rw [zero_len]; exact ⟨Nat.le_refl _, Nat.zero_le _, fun _ => ⟨rfl, rfl⟩⟩) DV.zero_ok (by rw [zero_len]; omega)
  rw [zero_len] at this
  exact this
end
end

/-! ### Mdyf -/
section
/-! ### Dyf -/
section
open Go.RowKit

/-- The block g begins with these three cells. -/
def St (w : World) (g : Nat) (v0 v1 v2 : Value) : Prop := w.cell? ⟨g, 0, none⟩ = some v0 ∧ w.cell? ⟨g, 1, none⟩ = some v1 ∧ w.cell? ⟨g, 2, none⟩ = some v2
theorem St.lt {w : World} {g : Nat} {v0 v1 v2 : Value} (h : St w g v0 v1 v2) : g < w.heap.size := World.block_lt_of_cell? w _ h.1
theorem St.ext {w w' : World} {g : Nat} {v0 v1 v2 : Value} (h : St w g v0 v1 v2) (e : Ext w w') : St w' g v0 v1 v2 :=
  ⟨(e.old.1 _ _ h.lt).trans h.1, (e.old.1 _ _ h.lt).trans h.2.1, (e.old.1 _ _ h.lt).trans h.2.2⟩
theorem St.new (w : World) (v0 v1 v2 : Value) (t : TypeId) : St (w.alloc (.cells #[v0, v1, v2] t)) w.heap.size v0 v1 v2 := ⟨by go_simp, by go_simp, by go_simp⟩
theorem St.far {w : World} {g g' : Nat} {v0 v1 v2 : Value} (h : St w g v0 v1 v2) (hne : g' ≠ g) (i : Nat) (u : Value) : St (w.setCell ⟨g', i, none⟩ u) g v0 v1 v2 :=
  ⟨(World.cell?_setCell_other _ _ _ _ (by intro e; injection e with e; exact hne e)).trans h.1, (World.cell?_setCell_other _ _ _ _ (by intro e; injection e with e; exact hne e)).trans h.2.1, (World.cell?_setCell_other _ _ _ _ (by intro e; injection e with e; exact hne e)).trans h.2.2⟩
/-- Behind a call: a box and a result that lie in the two newest blocks. -/
theorem two_boxes {w w1 : World} {u0 u1 u2 v0 v1 v2 : Value} {t t' : TypeId} (hx : Ext ((w.alloc (.cells #[u0, u1, u2] t)).alloc (.cells #[v0, v1, v2] t')) w1) :
    St w1 w.heap.size u0 u1 u2 ∧ St w1 (w.heap.size + 1) v0 v1 v2 ∧ w.heap.size + 1 < w1.heap.size ∧ Ext w w1 := by
  have s1 := ((St.new w u0 u1 u2 t).ext (Ext.alloc _ (.cells #[v0, v1, v2] t'))).ext hx
  have s2 := St.new (w.alloc (.cells #[u0, u1, u2] t)) v0 v1 v2 t'
  rw [show (w.alloc (.cells #[u0, u1, u2] t)).heap.size = w.heap.size + 1 by simp] at s2
  exact ⟨s1, s2.ext hx, (s2.ext hx).lt, ((Ext.alloc _ _).trans (Ext.alloc _ _)).trans hx⟩
theorem ext_set3 {w w1 : World} {g : Nat} (h : Ext w w1) (hg : w.heap.size ≤ g) (u0 u1 u2 : Value) : Ext w (((w1.setCell ⟨g, 0, none⟩ u0).setCell ⟨g, 1, none⟩ u1).setCell ⟨g, 2, none⟩ u2) := Ext.set (Ext.set (Ext.set h hg _) hg _) hg _
theorem St.far3 {w : World} {g g' : Nat} {v0 v1 v2 : Value} (h : St w g v0 v1 v2) (hne : g' ≠ g) (u0 u1 u2 : Value) : St (((w.setCell ⟨g', 0, none⟩ u0).setCell ⟨g', 1, none⟩ u1).setCell ⟨g', 2, none⟩ u2) g v0 v1 v2 := ((h.far hne _ _).far hne _ _).far hne _ _
theorem On.set3 {w : World} {b n c g : Nat} {A : Option Addr} {f : Nat → Nat} (h : On w b A n c f) (hg : g < b) (u0 u1 u2 : Value) : On (((w.setCell ⟨g, 0, none⟩ u0).setCell ⟨g, 1, none⟩ u1).setCell ⟨g, 2, none⟩ u2) b A n c f := ((h.set hg _ _).set hg _ _).set hg _ _
theorem size_set3 (w : World) (g : Nat) (u0 u1 u2 : Value) : (((w.setCell ⟨g, 0, none⟩ u0).setCell ⟨g, 1, none⟩ u1).setCell ⟨g, 2, none⟩ u2).heap.size = w.heap.size := by simp
/-- The end of a function that stores a call's number as its result. -/
theorem DyRes.end3 {d : DV} {w W w2 : World} {A : Option Addr} {c g : Nat} {e : Ending} {u0 u1 u2 : Value} (he : e = .returned (dv d.neg A (len d.m) c d.den)) (hon : On w2 W.heap.size A (len d.m) c (dg d.m)) (hx : Ext w w2) (hW : w.heap.size ≤ W.heap.size) (hg : w.heap.size ≤ g) (hg2 : g < W.heap.size) :
    DyRes d w e (((w2.setCell ⟨g, 0, none⟩ u0).setCell ⟨g, 1, none⟩ u1).setCell ⟨g, 2, none⟩ u2) :=
  ⟨A, c, he, (hon.set3 hg2 _ _ _).mono hW, ext_set3 hx hg _ _ _⟩

end

/-! ### Dyg -/
section
open Go.RowKit
attribute [local go_sem ↓] Go.wp_at_zero Go.wp_at_succ

theorem len_mul (m n : Nat) : len (m * n) ≤ len m + len n := by
  refine len_le ?_
  rw [pB_add]
  rcases Nat.eq_zero_or_pos n with h | h
  · subst h; have := pB_pos (len m); have := pB_pos (len 0); rw [Nat.mul_zero]; exact Nat.mul_pos (pB_pos _) (pB_pos _)
  · exact Nat.lt_of_lt_of_le (Nat.mul_lt_mul_of_pos_right (lt_pB_len m) h) (Nat.mul_le_mul_left _ (Nat.le_of_lt (lt_pB_len n)))

/-- A block of one's own that begins with these three cells. -/
def Bx (w : World) (g : Nat) (v0 v1 v2 : Value) : Prop := St w g v0 v1 v2 ∧ ∀ i, w.frozen? ⟨g, i, none⟩ = false
theorem Bx.lt {w : World} {g : Nat} {v0 v1 v2 : Value} (h : Bx w g v0 v1 v2) : g < w.heap.size := h.1.lt
theorem Bx.ext {w w' : World} {g : Nat} {v0 v1 v2 : Value} (h : Bx w g v0 v1 v2) (e : Ext w w') : Bx w' g v0 v1 v2 := ⟨h.1.ext e, fun i => (e.old.2 _ _ h.lt).trans (h.2 i)⟩
theorem Bx.new (w : World) (v0 v1 v2 : Value) (t : TypeId) : Bx (w.alloc (.cells #[v0, v1, v2] t)) w.heap.size v0 v1 v2 := ⟨St.new w v0 v1 v2 t, fun i => by go_simp⟩
theorem Bx.far3 {w : World} {g g' : Nat} {v0 v1 v2 : Value} (h : Bx w g v0 v1 v2) (hne : g' ≠ g) (u0 u1 u2 : Value) : Bx (((w.setCell ⟨g', 0, none⟩ u0).setCell ⟨g', 1, none⟩ u1).setCell ⟨g', 2, none⟩ u2) g v0 v1 v2 :=
  ⟨h.1.far3 hne _ _ _, fun i => by simp [h.2 i]⟩
theorem Bx.set3 {w : World} {g : Nat} {v0 v1 v2 : Value} (h : Bx w g v0 v1 v2) (u0 u1 u2 : Value) : Bx (((w.setCell ⟨g, 0, none⟩ u0).setCell ⟨g, 1, none⟩ u1).setCell ⟨g, 2, none⟩ u2) g u0 u1 u2 := by
  obtain ⟨⟨h0, h1, h2⟩, hf⟩ := h
  have c0 := World.cell?_setCell_same w _ u0 h0
  have n1 : (w.setCell ⟨g, 0, none⟩ u0).cell? ⟨g, 1, none⟩ = some v1 := (World.cell?_setCell_other _ _ _ _ (by intro e; injection e with _ e; cases e)).trans h1
  have n2 : (w.setCell ⟨g, 0, none⟩ u0).cell? ⟨g, 2, none⟩ = some v2 := (World.cell?_setCell_other _ _ _ _ (by intro e; injection e with _ e; cases e)).trans h2
  have m0 : ((w.setCell ⟨g, 0, none⟩ u0).setCell ⟨g, 1, none⟩ u1).cell? ⟨g, 0, none⟩ = some u0 := (World.cell?_setCell_other _ _ _ _ (by intro e; injection e with _ e; cases e)).trans c0
  have m1 := World.cell?_setCell_same _ _ u1 n1
  have m2 : ((w.setCell ⟨g, 0, none⟩ u0).setCell ⟨g, 1, none⟩ u1).cell? ⟨g, 2, none⟩ = some v2 := (World.cell?_setCell_other _ _ _ _ (by intro e; injection e with _ e; cases e)).trans n2
  refine ⟨⟨?_, ?_, World.cell?_setCell_same _ _ _ m2⟩, fun i => by simp [hf i]⟩
  · exact (World.cell?_setCell_other _ _ _ _ (by intro e; injection e with _ e; cases e)).trans m0
  · exact (World.cell?_setCell_other _ _ _ _ (by intro e; injection e with _ e; cases e)).trans m1
/-- Three boxes: two arguments and a result. -/
theorem three_boxes (w : World) (a0 a1 a2 b0 b1 b2 c0 c1 c2 : Value) (t t' t'' : TypeId) :
    Bx (((w.alloc (.cells #[a0, a1, a2] t)).alloc (.cells #[b0, b1, b2] t')).alloc (.cells #[c0, c1, c2] t'')) w.heap.size a0 a1 a2 ∧
    Bx (((w.alloc (.cells #[a0, a1, a2] t)).alloc (.cells #[b0, b1, b2] t')).alloc (.cells #[c0, c1, c2] t'')) (w.heap.size + 1) b0 b1 b2 ∧
    Bx (((w.alloc (.cells #[a0, a1, a2] t)).alloc (.cells #[b0, b1, b2] t')).alloc (.cells #[c0, c1, c2] t'')) (w.heap.size + 1 + 1) c0 c1 c2 ∧ Ext w (((w.alloc (.cells #[a0, a1, a2] t)).alloc (.cells #[b0, b1, b2] t')).alloc (.cells #[c0, c1, c2] t'')) := by
  have s1 := ((Bx.new w a0 a1 a2 t).ext (Ext.alloc _ (.cells #[b0, b1, b2] t'))).ext (Ext.alloc _ (.cells #[c0, c1, c2] t''))
  have s2 := (Bx.new (w.alloc (.cells #[a0, a1, a2] t)) b0 b1 b2 t').ext (Ext.alloc _ (.cells #[c0, c1, c2] t''))
  have s3 := Bx.new ((w.alloc (.cells #[a0, a1, a2] t)).alloc (.cells #[b0, b1, b2] t')) c0 c1 c2 t''
  rw [show (w.alloc (.cells #[a0, a1, a2] t)).heap.size = w.heap.size + 1 by simp] at s2
  rw [show ((w.alloc (.cells #[a0, a1, a2] t)).alloc (.cells #[b0, b1, b2] t')).heap.size = w.heap.size + 1 + 1 by simp] at s3
  exact ⟨s1, s2, s3, ((Ext.alloc _ _).trans (Ext.alloc _ _)).trans (Ext.alloc _ _)⟩

/-- What the first statement of a function of two numbers leaves. -/
def Two (w : World) (a b : DV) (A B : Option Addr) (ca cb : Nat) (wx : World) : Prop :=
  Ext w wx ∧ Bx wx w.heap.size (.bool a.neg) (.slice A (len a.m) ca) (I a.den) ∧ Bx wx (w.heap.size + 1) (.bool b.neg) (.slice B (len b.m) cb) (I b.den) ∧ Bx wx (w.heap.size + 1 + 1) (.bool false) (.slice none 0 0) (I 0)
theorem two_of {w W0 W : World} {a b : DV} {A B : Option Addr} {ca cb : Nat} {a0 a1 a2 b0 b1 b2 : Value} (h0 : Bx W0 w.heap.size a0 a1 a2) (h1 : Bx W0 (w.heap.size + 1) b0 b1 b2) (h2 : Bx W0 (w.heap.size + 1 + 1) (.bool false) (.slice none 0 0) (I 0)) (hw : Ext w W0) (hx : Ext W0 W) :
    Two w a b A B ca cb ((((((W.setCell ⟨w.heap.size, 0, none⟩ (.bool a.neg)).setCell ⟨w.heap.size, 1, none⟩ (.slice A (len a.m) ca)).setCell ⟨w.heap.size, 2, none⟩ (I a.den)).setCell ⟨w.heap.size + 1, 0, none⟩ (.bool b.neg)).setCell ⟨w.heap.size + 1, 1, none⟩ (.slice B (len b.m) cb)).setCell ⟨w.heap.size + 1, 2, none⟩ (I b.den)) :=
  ⟨ext_set3 (ext_set3 (hw.trans hx) (Nat.le_refl _) _ _ _) (by omega) _ _ _, ((h0.ext hx).set3 _ _ _).far3 (by omega) _ _ _, ((h1.ext hx).far3 (by omega) _ _ _).set3 _ _ _, ((h2.ext hx).far3 (by omega) _ _ _).far3 (by omega) _ _ _⟩
theorem keepB {w0 w' : World} {g h : Nat} {a0 a1 a2 b0 b1 b2 : Value} (ha : Bx w0 g a0 a1 a2) (hb : Bx w0 h b0 b1 b2) (e : Ext w0 w') :
    w'.cell? ⟨g, 0, none⟩ = some a0 ∧ w'.cell? ⟨g, 1, none⟩ = some a1 ∧ w'.cell? ⟨g, 2, none⟩ = some a2 ∧ w'.cell? ⟨h, 0, none⟩ = some b0 ∧ w'.cell? ⟨h, 1, none⟩ = some b1 ∧ w'.cell? ⟨h, 2, none⟩ = some b2 :=
  ⟨(ha.ext e).1.1, (ha.ext e).1.2.1, (ha.ext e).1.2.2, (hb.ext e).1.1, (hb.ext e).1.2.1, (hb.ext e).1.2.2⟩

theorem keepC {w0 w' : World} {g h j : Nat} {a0 a1 a2 b0 b1 b2 u0 u1 u2 : Value} (ha : Bx w0 g a0 a1 a2) (hb : Bx w0 h b0 b1 b2) (hg : j ≠ g) (hh : j ≠ h) (e : Ext w0 w') :
    (((w'.setCell ⟨j, 0, none⟩ u0).setCell ⟨j, 1, none⟩ u1).setCell ⟨j, 2, none⟩ u2).cell? ⟨g, 0, none⟩ = some a0 ∧ (((w'.setCell ⟨j, 0, none⟩ u0).setCell ⟨j, 1, none⟩ u1).setCell ⟨j, 2, none⟩ u2).cell? ⟨g, 1, none⟩ = some a1 ∧
    (((w'.setCell ⟨j, 0, none⟩ u0).setCell ⟨j, 1, none⟩ u1).setCell ⟨j, 2, none⟩ u2).cell? ⟨g, 2, none⟩ = some a2 ∧ (((w'.setCell ⟨j, 0, none⟩ u0).setCell ⟨j, 1, none⟩ u1).setCell ⟨j, 2, none⟩ u2).cell? ⟨h, 0, none⟩ = some b0 ∧
    (((w'.setCell ⟨j, 0, none⟩ u0).setCell ⟨j, 1, none⟩ u1).setCell ⟨j, 2, none⟩ u2).cell? ⟨h, 1, none⟩ = some b1 ∧ (((w'.setCell ⟨j, 0, none⟩ u0).setCell ⟨j, 1, none⟩ u1).setCell ⟨j, 2, none⟩ u2).cell? ⟨h, 2, none⟩ = some b2 :=
  ⟨((ha.ext e).far3 hg _ _ _).1.1, ((ha.ext e).far3 hg _ _ _).1.2.1, ((ha.ext e).far3 hg _ _ _).1.2.2, ((hb.ext e).far3 hh _ _ _).1.1, ((hb.ext e).far3 hh _ _ _).1.2.1, ((hb.ext e).far3 hh _ _ _).1.2.2⟩

end

/-! ### Dyh -/
section
open Go.RowKit

/-- Behind a call: a box that lies in the newest block. -/
theorem one_box {w w1 : World} {u0 u1 u2 : Value} {t : TypeId} (hx : Ext (w.alloc (.cells #[u0, u1, u2] t)) w1) : St w1 w.heap.size u0 u1 u2 ∧ w.heap.size < w1.heap.size ∧ Ext w w1 :=
  ⟨(St.new w u0 u1 u2 t).ext hx, ((St.new w u0 u1 u2 t).ext hx).lt, (Ext.alloc _ _).trans hx⟩

theorem sign_0 {d : DV} (h : d.m = 0) : signD d = 0 := by unfold signD; rw [if_pos h]
theorem sign_n {d : DV} (h : d.m ≠ 0) (hn : d.neg = true) : signD d = -1 := by unfold signD; rw [if_neg h, hn]; rfl
theorem sign_p {d : DV} (h : d.m ≠ 0) (hn : d.neg = false) : signD d = 1 := by unfold signD; rw [if_neg h, hn]; rfl
theorem shift_nrmI {d : DV} (h : d.ok) (k : Int) (h1 : -65536 ≤ k) (h2 : k ≤ 65536) : nrmI d.neg d.m (d.den - k) = if k < 0 then mkD d.neg d.m (d.den + (-k).toNat) else mkD d.neg (d.m * 2 ^ k.toNat) d.den := by
  by_cases hk : k < 0
  · rw [if_pos hk]
    rw [show (d.den : Int) - k = ((d.den + (-k).toNat : Nat) : Int) by omega, nrmI_nat]
  · rw [if_neg hk]
    obtain ⟨j, rfl⟩ : ∃ j : Nat, k = (j : Int) := ⟨k.toNat, by omega⟩
    have hd := h.2.1
    simp only [Int.toNat_natCast]
    rcases Nat.lt_or_ge d.den j with hj | hj
    · rw [show (d.den : Int) - (j : Int) = -((j - d.den : Nat) : Int) by omega, nrmI_neg (by omega)]
      refine DV.uniq (mkD_ok _ _ _) (mkD_ok _ _ _) ?_
      rw [q_mkD _ _ (by decide), q_mkD _ _ hd, ← qOf_shift d.neg (d.m * 2 ^ (j - d.den)) 0 d.den, Nat.mul_assoc, ← Nat.pow_add, Nat.zero_add, show j - d.den + d.den = j by omega]
    · rw [show (d.den : Int) - (j : Int) = ((d.den - j : Nat) : Int) by omega, nrmI_nat]
      refine DV.uniq (mkD_ok _ _ _) (mkD_ok _ _ _) ?_
      rw [q_mkD _ _ (by omega), q_mkD _ _ hd, ← qOf_shift d.neg d.m (d.den - j) j, show d.den - j + j = d.den by omega]
theorem shiftD_nrmI {d : DV} (h : d.ok) (n : Int) : shiftD d n = nrmI d.neg d.m (d.den - clampN n) := by
  have : -65536 ≤ clampN n ∧ clampN n ≤ 65536 := by unfold clampN; omega
  rw [shift_nrmI h _ this.1 this.2]; rfl

theorem ofI_nrmI (n : Int) (k : Nat) : nrmI (decide (n < 0)) n.natAbs (k : Int) = ofI n k := by rw [nrmI_nat]; rfl
theorem len_abs {n : Int} (h1 : -9223372036854775808 ≤ n) (h2 : n ≤ 9223372036854775807) : len n.natAbs ≤ 2 := len_le (by show _ < 4294967296 ^ 2; omega)

/-- What a function returns that may fail: a number and no error. -/
def DyOk (d : DV) (w : World) (e : Ending) (w' : World) : Prop := ∃ A c, e = .returned (.tuple #[dv d.neg A (len d.m) c d.den, .nilIface]) ∧ On w' w.heap.size A (len d.m) c (dg d.m) ∧ Ext w w'
theorem DyOk.end3 {d : DV} {w W w2 : World} {A : Option Addr} {c g : Nat} {e : Ending} {u0 u1 u2 : Value} (he : e = .returned (.tuple #[dv d.neg A (len d.m) c d.den, .nilIface])) (hon : On w2 W.heap.size A (len d.m) c (dg d.m)) (hx : Ext w w2) (hW : w.heap.size ≤ W.heap.size) (hg : w.heap.size ≤ g) (hg2 : g < W.heap.size) :
    DyOk d w e (((w2.setCell ⟨g, 0, none⟩ u0).setCell ⟨g, 1, none⟩ u1).setCell ⟨g, 2, none⟩ u2) :=
  ⟨A, c, he, (hon.set3 hg2 _ _ _).mono hW, ext_set3 hx hg _ _ _⟩
def DyErr (k : Int) (w : World) (e : Ending) (w' : World) : Prop := e = .returned (.tuple #[dv false none 0 0 0, .iface 72 (I k)]) ∧ Ext w w'

end

/-! ### Dyi -/
section
open Go.RowKit

theorem len_one : len 1 = 1 := by rw [len_pos (by decide), show 1 / 4294967296 = 0 by decide, len_zero]
theorem Dy.self {w : World} {neg : Bool} {A A' : Option Addr} {n c c' : Nat} {den : Int} {d : DV} (h : Dy w neg A n c den d A' c') : Dy w d.neg A' (len d.m) c' d.den d A' c' := Dy.valid h.rd h.sl h.wf h.lim
theorem DyOk.of {d : DV} {w W w2 : World} {A : Option Addr} {c : Nat} {e : Ending} (he : e = .returned (.tuple #[dv d.neg A (len d.m) c d.den, .nilIface])) (hon : On w2 W.heap.size A (len d.m) c (dg d.m)) (hx : Ext w w2) (hW : w.heap.size ≤ W.heap.size) : DyOk d w e w2 := ⟨A, c, he, hon.mono hW, hx⟩
theorem len_succ (m : Nat) : len (m + 1) ≤ len m + 1 := by
  refine len_le ?_
  have := lt_pB_len m
  have := pB_pos (len m)
  rw [pB_succ]; omega
/-- Behind a call: a box and a result, both one's own. -/
theorem two_bx {w w1 : World} {u0 u1 u2 v0 v1 v2 : Value} {t t' : TypeId} (hx : Ext ((w.alloc (.cells #[u0, u1, u2] t)).alloc (.cells #[v0, v1, v2] t')) w1) :
    Bx w1 w.heap.size u0 u1 u2 ∧ Bx w1 (w.heap.size + 1) v0 v1 v2 ∧ Ext w w1 := by
  have s1 := ((Bx.new w u0 u1 u2 t).ext (Ext.alloc _ (.cells #[v0, v1, v2] t'))).ext hx
  have s2 := Bx.new (w.alloc (.cells #[u0, u1, u2] t)) v0 v1 v2 t'
  rw [show (w.alloc (.cells #[u0, u1, u2] t)).heap.size = w.heap.size + 1 by simp] at s2
  exact ⟨s1, s2.ext hx, ((Ext.alloc _ _).trans (Ext.alloc _ _)).trans hx⟩
/-- What 'a = number(a)' leaves. -/
def One (w : World) (a : DV) (A : Option Addr) (ca : Nat) (wx : World) : Prop :=
  Ext w wx ∧ Bx wx w.heap.size (.bool a.neg) (.slice A (len a.m) ca) (I a.den) ∧ Bx wx (w.heap.size + 1) (.bool false) (.slice none 0 0) (I 0)
theorem one_of {w w1 : World} {a : DV} {A : Option Addr} {ca : Nat} {u0 u1 u2 : Value} {t t' : TypeId} (hx : Ext ((w.alloc (.cells #[u0, u1, u2] t)).alloc (.cells #[.bool false, .slice none 0 0, I 0] t')) w1) :
    One w a A ca (((w1.setCell ⟨w.heap.size, 0, none⟩ (.bool a.neg)).setCell ⟨w.heap.size, 1, none⟩ (.slice A (len a.m) ca)).setCell ⟨w.heap.size, 2, none⟩ (I a.den)) := by
  obtain ⟨h1, h2, h3⟩ := two_bx hx
  exact ⟨ext_set3 h3 (Nat.le_refl _) _ _ _, h1.set3 _ _ _, h2.far3 (by omega) _ _ _⟩
theorem keepO {w w0 w' : World} {a : DV} {A : Option Addr} {ca : Nat} (h : One w a A ca w0) (e : Ext w0 w') : One w a A ca w' := ⟨h.1.trans e, h.2.1.ext e, h.2.2.ext e⟩
theorem floor_small {d : DV} {k : Nat} (h : d.den ≤ k) : floorD d k = d := by unfold floorD; rw [if_pos h]
theorem floor_big {d : DV} {k : Nat} (h : k < d.den) : floorD d k = mkD d.neg (d.m / 2 ^ (d.den - k) + if d.neg then 1 else 0) k := by unfold floorD; rw [if_neg (by omega)]

end

/-! ### Dyj -/
section
open Go.RowKit
attribute [local go_sem ↓] Go.wp_at_zero Go.wp_at_succ

def AlRes (x y D : Nat) (w : World) (e : Ending) (w' : World) : Prop :=
  ∃ A1 c1 A2 c2, e = .returned (.tuple #[.slice A1 (len x) c1, .slice A2 (len y) c2, I D]) ∧ On w' w.heap.size A1 (len x) c1 (dg x) ∧ On w' w.heap.size A2 (len y) c2 (dg y) ∧ Ext w w'
theorem len_shl (m n : Nat) : len (m * 2 ^ n) ≤ len m + (n / 32 + 1) := by
  have h := len_mul m (2 ^ n)
  have : len (2 ^ n) ≤ n / 32 + 1 := by
    refine len_le ?_
    rw [pB_two]
    exact Nat.pow_lt_pow_right (by decide) (by omega)
  omega
theorem cmp_ne {x y : Int} (h : x ≠ y) : cmpI x y = if x < y then -1 else 1 := by
  unfold cmpI; split
  · rfl
  · rw [if_pos (by omega)]
end
end

/-! ### Dyk -/
section
open Go.RowKit
attribute [local go_sem ↓] Go.wp_at_zero Go.wp_at_succ

def TwoC (w : World) (a b : DV) (A B : Option Addr) (ca cb : Nat) (wx : World) : Prop :=
  Ext w wx ∧ Bx wx w.heap.size (.bool a.neg) (.slice A (len a.m) ca) (I a.den) ∧ Bx wx (w.heap.size + 1) (.bool b.neg) (.slice B (len b.m) cb) (I b.den)
theorem twoC_of {w W0 W : World} {a b : DV} {A B : Option Addr} {ca cb : Nat} {a0 a1 a2 b0 b1 b2 : Value} (h0 : Bx W0 w.heap.size a0 a1 a2) (h1 : Bx W0 (w.heap.size + 1) b0 b1 b2) (hw : Ext w W0) (hx : Ext W0 W) :
    TwoC w a b A B ca cb ((((((W.setCell ⟨w.heap.size, 0, none⟩ (.bool a.neg)).setCell ⟨w.heap.size, 1, none⟩ (.slice A (len a.m) ca)).setCell ⟨w.heap.size, 2, none⟩ (I a.den)).setCell ⟨w.heap.size + 1, 0, none⟩ (.bool b.neg)).setCell ⟨w.heap.size + 1, 1, none⟩ (.slice B (len b.m) cb)).setCell ⟨w.heap.size + 1, 2, none⟩ (I b.den)) :=
  ⟨ext_set3 (ext_set3 (hw.trans hx) (Nat.le_refl _) _ _ _) (by omega) _ _ _, ((h0.ext hx).set3 _ _ _).far3 (by omega) _ _ _, ((h1.ext hx).far3 (by omega) _ _ _).set3 _ _ _⟩

theorem cmp_ne_val {a b : DV} (ha : a.ok) (hb : b.ok) (h : signD a ≠ signD b) : cmpI (signD a) (signD b) = cmpD a b := by rw [cmpD_signs ha hb h, cmp_ne h]

end

end Go.Proofs.Ytommlhdiefoocaa
