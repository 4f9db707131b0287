/- Numbers as structs: what an argument counts as; the functions of one number. -/
import Derived.Test.YtgmmcfnahfcadaaDoorDyd
namespace Go.Proofs.YtgmmcfnahfcadaaDoor
open Go.RowKit

/-- The struct of these fields counts as the number d, which lies at A'. -/
structure Dy (w : World) (neg : Bool) (A : Option Addr) (n c : Nat) (den : Int) (d : DV) (A' : Option Addr) (c' : Nat) : Prop where
  rd : Rd w A' (len d.m) (dg d.m)
  sl : SlOk A' (len d.m) c'
  wf : d.ok
  lim : len d.m ≤ 16777216
  num : ∀ w', Ext w w' → Calls Tryd.prog 66 #[dv neg A n c den] w' (NumRes (dv d.neg A' (len d.m) c' d.den) w')
  norm : ∀ w', Ext w w' → Calls Tryd.prog 15 #[dv neg A n c den] w' (NumRes (dv d.neg A' (len d.m) c' d.den) w')
theorem Dy.ext {w w' : World} {neg : Bool} {A A' : Option Addr} {n c c' : Nat} {den : Int} {d : DV} (h : Dy w neg A n c den d A' c') (e : Ext w w') : Dy w' neg A n c den d A' c' :=
  ⟨h.rd.ext e, h.sl, h.wf, h.lim, fun w'' e' => h.num w'' (e.trans e'), fun w'' e' => h.norm w'' (e.trans e')⟩
theorem vld_ok {d : DV} (h : d.ok) : vld d.neg (len d.m) (dg d.m) d.den = true := by
  obtain ⟨h1, h2, h3⟩ := h
  by_cases h0 : d.m = 0
  · obtain ⟨e1, e2⟩ := h1 h0
    rw [h0, len_zero, vld_zero, e1, e2]; rfl
  · have ht := dg_top h0
    unfold vld
    rw [if_neg (fun e => h0 (len_eq_zero.1 e)), dg_zero]
    by_cases hd : d.den = 0
    · simp [ht, hd]
    · have := h3 (by omega)
      simp [ht]
      exact ⟨by omega, .inr (by omega)⟩
theorem Dy.valid {w : World} {d : DV} {A : Option Addr} {c : Nat} (hr : Rd w A (len d.m) (dg d.m)) (ok : SlOk A (len d.m) c) (wf : d.ok) (hl : len d.m ≤ 16777216) : Dy w d.neg A (len d.m) c d.den d A c :=
  ⟨hr, ok, wf, hl, fun w' e => number_t _ _ _ _ _ _ _ (hr.ext e) (wf_dg d.m) (by omega) (vld_ok wf), fun w' e => norm_t _ _ _ _ _ _ _ (hr.ext e) (wf_dg d.m) (by omega) (vld_ok wf)⟩
def nrA (neg : Bool) (n : Nat) (f : Nat → Nat) (den : Int) : DV := if vld neg n f den = true then ⟨neg, valN f n, den.toNat⟩ else DV.zero
theorem zero_len : len DV.zero.m = 0 := len_zero
theorem Dy.any {w : World} {neg : Bool} {A : Option Addr} {n c : Nat} {den : Int} {f : Nat → Nat} (hr : Rd w A n f) (ok : SlOk A n c) (hb : ∀ i, i < n → f i < 4294967296) (hn : n ≤ 16777216) :
    Dy w neg A n c den (nrA neg n f den) (if vld neg n f den = true then A else none) (if vld neg n f den = true then c else 0) := by
  by_cases hv : vld neg n f den = true
  · have e : nrA neg n f den = ⟨neg, valN f n, den.toNat⟩ := by unfold nrA; rw [if_pos hv]
    rw [if_pos hv, if_pos hv, e]
    have hl : len (valN f n) = n := by
      refine len_valN hb (Nat.le_refl _) (fun i h1 h2 => by omega) ?_
      cases n with
      | zero => exact .inl rfl
      | succ k => rw [vld_succ] at hv; simp at hv; exact .inr (by simpa using hv.1.1.1)
    have hd : 0 ≤ den ∧ den ≤ 65536 ∧ (n = 0 → neg = false ∧ den = 0) ∧ (0 < den → f 0 % 2 = 1) := by
      cases n with
      | zero => rw [vld_zero] at hv; simp at hv; exact ⟨by omega, by omega, fun _ => hv, fun h => by omega⟩
      | succ k => rw [vld_succ] at hv; simp at hv; exact ⟨hv.1.1.2, hv.1.2, fun h => by omega, fun h => by omega⟩
    obtain ⟨d0, d1, d2, d3⟩ := hd
    have ed : ((den.toNat : Nat) : Int) = den := by omega
    refine ⟨?_, ?_, ⟨?_, ?_, ?_⟩, ?_, ?_, ?_⟩
    · show Rd w A (len (valN f n)) _
      rw [hl]; exact hr.congr fun i hi => (dg_valN hb hi).symm
    · show SlOk A (len (valN f n)) c
      rw [hl]; exact ok
    · intro h0
      have h0' : valN f n = 0 := h0
      have : n = 0 := by rw [h0', len_zero] at hl; exact hl.symm
      have := d2 this
      exact ⟨this.1, by show den.toNat = 0; omega⟩
    · show den.toNat ≤ 65536; omega
    · intro h0
      have h0' : 0 < den.toNat := h0
      have h1 := d3 (by omega)
      have hn0 : 0 < n := by
        rcases Nat.eq_zero_or_pos n with h | h
        · have := (d2 h).2; omega
        · exact h
      have := dg_valN hb hn0
      rw [dg_zero] at this
      show valN f n % 2 = 1
      omega
    · show len (valN f n) ≤ _
      omega
    · intro w' e'
      show Calls _ _ _ _ (NumRes (dv neg A (len (valN f n)) c ((den.toNat : Nat) : Int)) w')
      rw [hl, ed]; exact number_t _ _ _ _ _ _ _ (hr.ext e') hb (by omega) hv
    · intro w' e'
      show Calls _ _ _ _ (NumRes (dv neg A (len (valN f n)) c ((den.toNat : Nat) : Int)) w')
      rw [hl, ed]; exact norm_t _ _ _ _ _ _ _ (hr.ext e') hb (by omega) hv
  · have hv' : vld neg n f den = false := by simpa using hv
    have e : nrA neg n f den = DV.zero := by unfold nrA; rw [if_neg hv]
    rw [if_neg hv, if_neg hv, e]
    refine ⟨by rw [zero_len]; exact Rd.none_, by rw [zero_len]; exact ⟨Nat.le_refl _, Nat.zero_le _, fun _ => ⟨rfl, rfl⟩⟩, DV.zero_ok, by rw [zero_len]; omega, ?_, ?_⟩
    · intro w' e'
      rw [zero_len]; exact number_f _ _ _ _ _ _ _ (hr.ext e') hb (by omega) hv'
    · intro w' e'
      rw [zero_len]; exact norm_f _ _ _ _ _ _ _ (hr.ext e') hb (by omega) hv'
theorem Dy.zero (w : World) : Dy w false none 0 0 0 DV.zero none 0 := by
  have := Dy.valid (w := w) (d := DV.zero) (A := none) (c := 0) (by rw [zero_len]; exact Rd.none_) (by rw [zero_len]; exact ⟨Nat.le_refl _, Nat.zero_le _, fun _ => ⟨rfl, rfl⟩⟩) DV.zero_ok (by rw [zero_len]; omega)
  rw [zero_len] at this
  exact this

end Go.Proofs.YtgmmcfnahfcadaaDoor
