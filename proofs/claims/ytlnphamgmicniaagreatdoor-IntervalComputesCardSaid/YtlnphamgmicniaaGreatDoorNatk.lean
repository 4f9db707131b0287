/- Functions on natural numbers, part 11: quotients. -/
import Derived.Test.YtlnphamgmicniaaGreatDoorMnati
import Derived.Test.YtlnphamgmicniaaGreatDoorShelf
namespace Go.Proofs.YtlnphamgmicniaaGreatDoor
open Go.RowKit

theorem lz_any (x : Nat) (w : World) (hx : x < 4294967296) : ∃ s : Nat, s ≤ 32 ∧ Calls Tryz.prog 139 #[U4 x] w fun e w' => e = .returned (I s) ∧ w = w' := by
  have hl := Lib.bitLen_le x 32 (by decide) hx
  refine ⟨32 - Lib.bitLen x, by omega, (Tryz.bits_LeadingZeros32 (x : Int) w (by omega) (by omega)).mono fun e w' ⟨he, hw⟩ => ⟨?_, hw.symm⟩⟩
  rw [he]; congr 2
  simp only [Int.toNat_natCast]
  omega

theorem valN_split (F : Nat → Nat) (i n : Nat) : valN F (i + n) = valN F i + pB i * valN (fun k => F (i + k)) n := by
  induction n with
  | zero => simp [valN]
  | succ n ih =>
    rw [← Nat.add_assoc, valN, ih, valN, pB_add, Nat.mul_add, Nat.add_assoc]
    congr 2
    rw [Nat.mul_left_comm]
theorem valN_upd_mid {G : Nat → Nat} {i K v : Nat} (hi : i < K) (h0 : G i = 0) : valN (upd G i v) K = valN G K + v * pB i := by
  induction K with
  | zero => omega
  | succ K ih =>
    by_cases e : i = K
    · subst e; rw [valN_upd, valN, h0]; simp
    · rw [valN, ih (by omega), valN, upd_ne _ (by omega)]; omega
/-- One word of a quotient. -/
theorem quo_step {F F' G : Nat → Nat} {D R K ld i : Nat} (hi : i < K) (hG : G i = 0) (h1 : valN F (i + 1 + ld) + valN G K * D = R) (hF : ∀ k, k < i → F' k = F k)
    (hM : valN (fun k => F' (i + k)) ld = valN (fun k => F (i + k)) (ld + 1) % D) : valN F' (i + ld) + valN (upd G i (valN (fun k => F (i + k)) (ld + 1) / D)) K * D = R := by
  have h2 := valN_split F i (ld + 1)
  have h3 := valN_split F' i ld
  have h4 : valN F' i = valN F i := valN_congr hF
  rw [show i + (ld + 1) = i + 1 + ld by omega] at h2
  rw [h3, h4, hM, valN_upd_mid hi hG, ← h1, h2]
  generalize valN (fun k => F (i + k)) (ld + 1) = M
  have h5 := Nat.div_add_mod M D
  generalize M / D = q at *
  generalize M % D = r at *
  subst h5
  rw [Nat.mul_add, Nat.add_mul]
  have : pB i * (D * q) = q * pB i * D := by rw [Nat.mul_left_comm, Nat.mul_comm D, Nat.mul_comm (pB i)]
  omega
theorem quo_inv {F : Nat → Nat} {D ld i : Nat} (h : valN (fun k => F (i + 1 + k)) ld < D) (hb : F i < 4294967296) : valN (fun k => F (i + k)) (ld + 1) < D * 4294967296 := by
  have h1 := valN_split (fun k => F (i + k)) 1 ld
  rw [show valN (fun k => F (i + k)) 1 = F i by simp [valN, pB_zero], show pB 1 = 4294967296 by decide] at h1
  have h2 : valN (fun k => F (i + (1 + k))) ld = valN (fun k => F (i + 1 + k)) ld := valN_congr fun k _ => by rw [Nat.add_assoc]
  rw [Nat.add_comm ld 1, h1, h2]
  omega
theorem quo_start {R D lr : Nat} (hR : len R = lr) (hD : 0 < D) (hld : len D ≤ lr) : valN (fun k => dg R (lr + 1 - len D + k)) (len D) < D := by
  have e : valN (fun k => dg R (lr + 1 - len D + k)) (len D) = R / pB (lr + 1 - len D) := by
    rw [valN_congr (g := dg (R / pB (lr + 1 - len D))) (fun i _ => (dg_div _ _ _).symm)]
    refine valN_dg_all ?_
    rw [len_div]; omega
  rw [e, Nat.div_lt_iff_lt_mul (pB_pos _)]
  have h1 := pB_le_of_lt_len (m := D) (n := len D - 1) (by have := len_pos (m := D) (by omega); omega)
  have h2 := lt_pB (m := R) (n := lr) (by omega)
  have h3 : pB lr = pB (len D - 1) * pB (lr + 1 - len D) := by
    have := len_pos (m := D) (by omega)
    rw [← pB_add]; congr 1; omega
  rw [h3] at h2
  exact Nat.lt_of_lt_of_le h2 (Nat.mul_le_mul_right _ h1)
theorem quo_end {F G : Nat → Nat} {D R K ld : Nat} (hD : valN F ld < D) (h : valN F ld + valN G K * D = R) : valN G K = R / D ∧ valN F ld = R % D := by
  subst h
  constructor
  · rw [Nat.add_mul_div_right _ _ (by omega), Nat.div_eq_of_lt hD]; simp
  · rw [Nat.add_mul_mod_self_right, Nat.mod_eq_of_lt hD]
theorem shl_quo (m n s : Nat) : m * 2 ^ s / (n * 2 ^ s) = m / n ∧ (m * 2 ^ s % (n * 2 ^ s) = 0 ↔ m % n = 0) := by
  refine ⟨Nat.mul_div_mul_right _ _ (p2_pos s), ?_⟩
  rw [Nat.mul_mod_mul_right]
  constructor
  · intro h
    rcases Nat.mul_eq_zero.1 h with h | h
    · exact h
    · have := p2_pos s; omega
  · intro h; rw [h]; simp

def QuoRes (m n : Nat) (w : World) (e : Ending) (w' : World) : Prop :=
  ∃ A c, e = .returned (.tuple #[.slice A (len (m / n)) c, .bool (decide (m % n = 0))]) ∧ On w' w.heap.size A (len (m / n)) c (dg (m / n)) ∧ Ext w w'
theorem cmpF_neg {m n : Nat} (h : m < n) : cmpF m n = -1 := cmp_lt h

set_option maxRecDepth 100000 in
set_option maxHeartbeats 1000000 in
theorem quotient_lt (A B : Option Addr) (m n ca cb : Nat) (w : World) (ha : Rd w A (len m) (dg m)) (hb' : Rd w B (len n) (dg n)) (hL : len m ≤ 1073741824) (h : m < n) :
    Calls Tryz.prog 108 #[.slice A (len m) ca, .slice B (len n) cb] w (QuoRes m n w) := by
  have HC : Hid (∀ w', Ext w w' → Calls Tryz.prog 125 #[.slice A (len m) ca, .slice B (len n) cb] w' fun e w'' => e = .returned (I (-1)) ∧ Ext w' w'') := fun w' e => cmpF_neg h ▸ compare_any A B m n ca cb w' (ha.ext e) (hb'.ext e) hL
  have H0 := Lib.hid (Nat.div_eq_of_lt h)
  have H1 := Lib.hid (Nat.mod_eq_of_lt h)
  clear ha hb' h
  by_cases hm : m = 0
  · subst hm
    rw [len_zero] at HC
    rw [len_zero]
    go_enter Tryz.func108, Tryz.ntmps108
    go_wp2_with (go_at_call 125; refine (HC.out _ (Ext.refl _)).mono ?_; rintro e w1 ⟨rfl, hx⟩; have HX := Lib.hid hx; clear hx)
    go_ret2
    exact ⟨none, 0, by rw [H0.out, H1.out, len_zero]; rfl, by show On _ _ none (len (0 / n)) 0 _; rw [H0.out, len_zero]; exact On.nil _ _ _, HX.out⟩
  · have hl : ((len m : Int) == 0) = false := by
      have : len m ≠ 0 := fun e => hm (len_eq_zero.1 e)
      simp; omega
    have H2 : Hid (decide (m % n = 0) = false) := by show _ = _; rw [H1.out]; simpa using hm
    clear hm
    go_enter Tryz.func108, Tryz.ntmps108
    go_wp2_with (go_at_call 125; refine (HC.out _ (Ext.refl _)).mono ?_; rintro e w1 ⟨rfl, hx⟩; have HX := Lib.hid hx; clear hx)
    go_ret2
    exact ⟨none, 0, by rw [H0.out, H2.out, len_zero]; rfl, by show On _ _ none (len (m / n)) 0 _; rw [H0.out, len_zero]; exact On.nil _ _ _, HX.out⟩

theorem len_shl2 (m n : Nat) : len (m * 2 ^ n) ≤ len m + (n / 32 + 1) := by
  refine len_le ?_
  rw [pB_add]
  have h : 2 ^ n < pB (n / 32 + 1) := by
    rw [pB_two]; exact Nat.pow_lt_pow_right (by decide) (by omega)
  rcases Nat.eq_zero_or_pos m with h0 | h0
  · subst h0; rw [Nat.zero_mul]; exact Nat.mul_pos (pB_pos _) (pB_pos _)
  · exact Nat.lt_of_lt_of_le (Nat.mul_lt_mul_of_pos_left h h0) (Nat.mul_le_mul_right _ (Nat.le_of_lt (lt_pB_len m)))

/-- The division itself. -/
def DivRel (w : World) (g1 g2 N K cap ld D R j : Nat) (F G : Nat → Nat) (wr : World) : Prop :=
  Row wr w.heap.size g1 N cap F ∧ Row wr g2 g2 K K G ∧ Ext w wr ∧ (∀ i, i < N → F i < 4294967296) ∧ (∀ i, i < K → G i < 4294967296) ∧ (∀ k, j + ld ≤ k → k < N → F k = 0) ∧ (∀ k, k < j → G k = 0) ∧
    valN F (j + ld) + valN G K * D = R ∧ valN (fun k => F (j + k)) ld < D

set_option maxRecDepth 100000 in
set_option maxHeartbeats 1000000 in
theorem quotient_ge (A B : Option Addr) (m n ca cb : Nat) (w : World) (ha : Rd w A (len m) (dg m)) (hb' : Rd w B (len n) (dg n)) (hL : len m ≤ 33554432) (hM : len n ≤ 33554432) (hn : n ≠ 0) (h : n ≤ m) :
    Calls Tryz.prog 108 #[.slice A (len m) ca, .slice B (len n) cb] w (QuoRes m n w) := by
  obtain ⟨v, hv⟩ : ∃ v, cmpF m n = v := ⟨_, rfl⟩
  have hv0 : ¬ v < 0 := by
    rw [← hv]; unfold cmpF
    rw [if_neg (by omega)]; split <;> omega
  have HC : Hid (∀ w', Ext w w' → Calls Tryz.prog 125 #[.slice A (len m) ca, .slice B (len n) cb] w' fun e w'' => e = .returned (I v) ∧ Ext w' w'') := fun w' e => hv ▸ compare_any A B m n ca cb w' (ha.ext e) (hb'.ext e) (by omega)
  have HSM : Hid (∀ w' (s : Nat), Ext w w' → s ≤ 32 → Calls Tryz.prog 109 #[.slice A (len m) ca, I s] w' (NatRes (m * 2 ^ s) w')) := fun w' s e h => shiftLeft_any A m s ca w' (ha.ext e) (by omega) (by omega)
  have HSN : Hid (∀ w' (s : Nat), Ext w w' → s ≤ 32 → Calls Tryz.prog 109 #[.slice B (len n) cb, I s] w' (NatRes (n * 2 ^ s) w')) := fun w' s e h => shiftLeft_any B n s cb w' (hb'.ext e) (by omega) (by omega)
  have HB := Lib.hid hb'; clear ha hb'
  have hlp := len_pos hn
  obtain ⟨l, hl⟩ : ∃ l, len n = l + 1 := ⟨len n - 1, by omega⟩
  obtain ⟨b3, o3, rfl, hb3, c3⟩ := HB.out.at_ (k := l) (by omega)
  have hnt := dg_lt n l
  obtain ⟨nt, hnte⟩ : ∃ nt, dg n l = nt := ⟨_, rfl⟩
  rw [hnte] at c3 hnt
  have HSZ : Hid (∀ w', ∃ s : Nat, s ≤ 32 ∧ Calls Tryz.prog 139 #[U4 nt] w' fun e w'' => e = .returned (I s) ∧ w' = w'') := fun w' => lz_any nt w' hnt
  have HF : Hid (∀ s, s ≤ 32 → len (n * 2 ^ s) ≤ len (m * 2 ^ s) ∧ 1 ≤ len (n * 2 ^ s) ∧ len (m * 2 ^ s) ≤ 33554440) := fun s hs => by
    have h1 := len_shl2 m s
    have h2 : n * 2 ^ s ≠ 0 := by have := Nat.mul_pos (show 0 < n by omega) (p2_pos s); omega
    have h3 := len_pos h2
    exact ⟨len_mono (Nat.mul_le_mul_right _ h), by omega, by omega⟩
  clear hv hnte hlp
  rw [hl] at HB HC HSN hM
  rw [hl]
  have HN0 := Lib.hid hn
  clear hl hn h
  obtain ⟨L, hLL⟩ : ∃ L, len m = L := ⟨_, rfl⟩
  rw [hLL] at HC HSM hL
  rw [hLL]
  clear hLL
  go_enter Tryz.func108, Tryz.ntmps108
  go_upto_region 6 with (first
    | (go_at_call 125; refine (HC.out _ (Ext.refl _)).mono ?_; rintro e w1 ⟨rfl, hx⟩; obtain ⟨hc, hf⟩ := hx.old; have HX := Lib.hid hx; clear hx)
    | (go_at_call 139; obtain ⟨s, hs, hcs⟩ := HSZ.out w1; refine hcs.mono ?_; rintro e w1' ⟨rfl, rfl⟩; clear hcs)
    | (go_at_call 109; (with_reducible refine (HSN.out _ s HX.out hs).mono ?_); rintro e w2 ⟨A2, c2, rfl, hon2, hx2⟩; have HO2 := Lib.hid hon2; have HX2 := Lib.hid hx2; clear hon2 hx2 hc hf c3)
    | (go_at_call 109; (with_reducible refine (HSM.out _ s (HX.out.trans HX2.out) hs).mono ?_); rintro e w3 ⟨A3, c3, rfl, hon3, hx3⟩; have HO3 := Lib.hid hon3; have HX3 := Lib.hid hx3; clear hon3 hx3)
    | (at_builtin; refine app1 rfl _ _ rfl w2.heap.size A3 (len (m * 2 ^ s)) c3 (dg (m * 2 ^ s)) (by rfl) (HO3.out.ext (Ext.alloc _ _)) _ 1 0 (by rfl) (by go_simp) (by have := HF.out s hs; omega) (by have := HX3.out.size; simp; omega) ?_; intro g1 cap w4 hrow hg4 hat4 hlt4; have HR4 := Lib.hid hrow; have HX4 : Hid (Ext w2 w4) := ext_app (HX3.out.trans (Ext.alloc _ _)) (HO3.out.ext (Ext.alloc _ _)) hg4; clear hrow hg4 hat4 hlt4))
  obtain ⟨hf1, hf2, hf3⟩ := HF.out s hs
  have HQ := shl_quo m n s
  have HQ1 := Lib.hid HQ.1
  have HQ2 := Lib.hid HQ.2
  have hD0 : Hid (0 < n * 2 ^ s) := Nat.mul_pos (Nat.pos_of_ne_zero HN0.out) (p2_pos s)
  clear HQ
  generalize m * 2 ^ s = R at *
  generalize n * 2 ^ s = D at *
  obtain ⟨lr, hlr⟩ : ∃ lr, len R = lr := ⟨_, rfl⟩
  obtain ⟨l2, hl2⟩ : ∃ l2, len D = l2 + 1 := ⟨len D - 1, by omega⟩
  obtain ⟨K, hK⟩ : ∃ K, lr + 1 - (l2 + 1) = K := ⟨_, rfl⟩
  have HS0 := quo_start hlr hD0.out (by omega)
  rw [hl2, hK] at HS0
  rw [hlr, hl2] at hf1
  rw [hl2] at hf2
  rw [hlr] at hf3
  rw [hlr] at HR4
  rw [hlr, hl2]
  rw [hl2] at HO2
  have HLR := Lib.hid hlr
  have HLD := Lib.hid hl2
  clear hlr hl2
  have eK : (lr : Int) + 1 - ((l2 : Int) + 1) = (K : Int) := by omega
  have eK2 : (lr : Int) - (l2 : Int) = (K : Int) := by omega
  obtain ⟨w5, hrun, hrow5, hx5⟩ := run_make_row w4 K (by omega)
  have HR5 := Lib.hid hrow5
  have HX5 := Lib.hid hx5
  clear hrow5 hx5
  obtain ⟨k0, hk0⟩ : ∃ k0, K = k0 + 1 := ⟨K - 1, by omega⟩
  have eK3 : (K : Int) - 1 = (k0 : Int) := by omega
  have HK0 := Lib.hid hk0
  have HKK : Hid (K + l2 = lr) := by show _ = _; omega
  have hlt12 : w4.heap.size > g1 := HR4.out.lt.2
  have hg1 : w2.heap.size ≤ g1 := HR4.out.lt.1
  have hcap : lr + 1 ≤ cap := HR4.out.cap.1
  obtain ⟨g2, hg2⟩ : ∃ g2, w4.heap.size = g2 := ⟨_, rfl⟩
  have HST : Hid (DivRel w2 g1 g2 (lr + 1) K cap (l2 + 1) D R K (upd (dg R) lr 0) (fun _ => 0) w5) := by
    refine ⟨HR4.out.ext HX5.out, ?_, HX4.out.trans HX5.out, upd_lt (wf_dg R) (by decide), fun _ _ => by show (0:Nat) < _; decide, fun k h1 h2 => by omega, fun _ _ => rfl, ?_, ?_⟩
    · rw [← hg2]; exact HR5.out
    · have h1 : valN (upd (dg R) lr 0) (lr + 1) = R := by
        rw [valN_upd, valN_dg_all (by rw [HLR.out]; omega)]; simp
      rw [show K + (l2 + 1) = lr + 1 by have := HKK.out; omega, h1, valN_zeros (f := fun _ => 0) (t := 0) (Nat.zero_le _) (fun _ _ _ => rfl)]
      simp [valN]
    · have h1 : valN (fun k => upd (dg R) lr 0 (K + k)) (l2 + 1) = valN (fun k => dg R (K + k)) (l2 + 1) := valN_congr fun k hk => by
        by_cases e : K + k = lr
        · rw [e, upd_same, dg_high (by rw [HLR.out]; omega)]
        · exact upd_ne _ e
      rw [h1]; exact HS0
  rw [hg2] at hrun hlt12
  clear HS0 hK hk0 eK2 hf1 hf2 HR5 HR4 HO3 HX3 HSN HSM HC HF HSZ HB
  go_wp2_with fail
  clear hrun
  go_loopw [10] (fun sl wr => ∃ (j : Nat) (F G : Nat → Nat), j ≤ K ∧ (sl = I (-1) ∧ j = 0 ∨ ∃ i : Nat, sl = I i ∧ j = i + 1) ∧ DivRel w2 g1 g2 (lr + 1) K cap (l2 + 1) D R j F G wr) (fun sl _ => (intOf sl + 1).toNat)
  case atStart => exact ⟨K, _, _, Nat.le_refl _, .inr ⟨k0, rfl, HK0.out⟩, HST.out⟩
  case round =>
    clear HST
    obtain ⟨j, F, G, hj, ⟨rfl, rfl⟩ | ⟨i, rfl, rfl⟩, hrel⟩ := hrel
    · obtain ⟨r1, r2, hE, hF, hG, hz, hg0, hv, hlt⟩ := hrel
      have R1 := Lib.hid r1; have R2 := Lib.hid r2; have HE := Lib.hid hE; have HF := Lib.hid hF; have HG := Lib.hid hG
      rw [Nat.zero_add] at hv
      have hlt' : valN F (l2 + 1) < D := by rw [valN_congr (g := F) (fun k _ => by rw [Nat.zero_add])] at hlt; exact hlt
      obtain ⟨q1, q2⟩ := quo_end hlt' hv
      have hz2 : valN F (lr + 1) = R % D := by
        rw [← q2]; exact valN_zeros (by have := HKK.out; omega) (fun k h1 h2 => hz k (by omega) h2)
      have HQ3 := Lib.hid q1
      have HQ4 := Lib.hid hz2
      clear r1 r2 hE hF hG hz hg0 hv hlt hlt' q1 q2 hz2
      go_wp2_with (first
        | (go_at_call_of 135 (Value.slice (some ⟨g2, 0, none⟩) K K); (with_reducible refine (trim_any _ _ _ G _ R2.out.rd HG.out (Nat.le_refl _) R2.out.cap.2).mono ?_); rintro e w6 ⟨rfl, rfl⟩)
        | (go_at_call 135; (with_reducible refine (trim_any _ _ _ F _ R1.out.rd HF.out hcap R1.out.cap.2).mono ?_); rintro e w6 ⟨rfl, rfl⟩))
      have hs1 := HX.out.size
      have hs2 := HX2.out.size
      have HB : Hid (((len (valN F (lr + 1)) : Int) == 0) = decide (m % n = 0)) := by
        show _ = _
        rw [HQ4.out, Bool.eq_iff_iff]
        simp only [beq_iff_eq, decide_eq_true_eq]
        rw [← HQ2.out, ← len_eq_zero (m := R % D)]
        omega
      have HV : Hid (valN G K = m / n) := HQ3.out.trans HQ1.out
      go_ret2
      refine ⟨some ⟨g2, 0, none⟩, K, ?_, ?_, (HX.out.trans HX2.out).trans HE.out⟩
      · rw [← HB.out, ← HV.out]; rfl
      · have hl1 := len_le (valN_lt HG.out)
        rw [← HV.out]
        exact (((R2.out.le hl1).congr fun i hi => (dg_valN HG.out (by omega)).symm).on).mono (by omega)
    · obtain ⟨r1, r2, hE, hF, hG, hz, hg0, hv, hlt⟩ := hrel
      have R1 := Lib.hid r1; have R2 := Lib.hid r2; have HE := Lib.hid hE; have HF := Lib.hid hF; have HG := Lib.hid hG; have HZ := Lib.hid hz; have HG0 := Lib.hid hg0; have HV := Lib.hid hv
      have hiK : i < K := by omega
      have hKK := HKK.out
      have HINV := Lib.hid (quo_inv hlt (hF i (by omega)))
      have HDV : Hid (valN (dg D) (l2 + 1) = D) := valN_dg_all (by rw [HLD.out]; omega)
      have HTP : Hid (0 < dg D l2) := by
        have := dg_top (m := D) (by have := hD0.out; omega)
        rw [HLD.out] at this
        exact Nat.pos_of_ne_zero this
      have HNE := Lib.hid (HO2.out.rd.block_ne (g := g1) (by omega) hg1)
      have HTK : Hid (∀ cm, l2 + 1 + 1 ≤ cm → Calls Tryz.prog 140 #[.slice (some ⟨g1, i, none⟩) (l2 + 1 + 1) cm, .slice A2 (l2 + 1) c2] wr (TakePost wr w2.heap.size g1 (lr + 1) cap i (l2 + 1) F (dg D))) := fun cm hcm =>
        takeOff_any w2.heap.size g1 (lr + 1) cap i l2 cm c2 F (dg D) A2 wr R1.out (by omega) (by omega) hcm (HO2.out.rd.ext HE.out) HNE.out HF.out (wf_dg D) HTP.out (by rw [HDV.out]; exact HINV.out)
      have f2 := R2.out.frozen i
      have hKm := R2.out.cap.2
      have i1 : i + (l2 + 1) + 1 - i = l2 + 1 + 1 := by omega
      have i2 : i ≠ cap := by omega
      have i3 : l2 + 1 + 1 ≤ cap - i := by omega
      have i4 : i + (l2 + 1) + 1 ≤ cap := by omega
      obtain ⟨qd, hqd⟩ : ∃ qd, valN (fun k => F (i + k)) (l2 + 1 + 1) / valN (dg D) (l2 + 1) = qd := ⟨_, rfl⟩
      have hqb : qd < 4294967296 := by
        rw [← hqd, HDV.out, Nat.div_lt_iff_lt_mul hD0.out, Nat.mul_comm]; exact HINV.out
      have HQD := Lib.hid hqd
      have hg12 : w2.heap.size ≤ g2 := by omega
      clear r1 r2 hE hF hG hz hg0 hv hlt hKm hqd f2
      go_wp2_with (go_at_call 140; (with_reducible refine (HTK.out _ i3).mono ?_); rintro e w6 ⟨F', rfl, hrow, hfr, hbF, hout, h0', hval⟩; rw [HQD.out]; have R6 := Lib.hid (R2.out.grown hfr (by simp; omega)); have f6 := R6.out.frozen i; have c6 := R6.out.cell hiK; have HROW := Lib.hid hrow; have HFR := Lib.hid hfr; have HBF := Lib.hid hbF; have HOUT := Lib.hid hout; have H0' := Lib.hid h0'; have HVAL := Lib.hid hval; clear hrow hfr hbF hout h0' hval)
      go_roundw
      case rel =>
        refine ⟨i, F', upd G i qd, by omega, ?_, HROW.out.grown (Row.set_fr R6.out i qd) (by simp; omega), Row.set R6.out _ _, Ext.set (ext_fr HE.out HFR.out hg1) hg12 _, HBF.out, upd_lt HG.out hqb, fun k h1 h2 => ?_, fun k hk => ?_, ?_, ?_⟩
        · cases i with
          | zero => exact .inl ⟨rfl, rfl⟩
          | succ i' => exact .inr ⟨i', by go_num, rfl⟩
        · by_cases e : k = i + (l2 + 1)
          · rw [e]; exact H0'.out
          · rw [HOUT.out k (.inr (by omega))]; exact HZ.out k (by omega) h2
        · rw [upd_ne _ (by omega)]; exact HG0.out k (by omega)
        · rw [← HQD.out, HDV.out]
          exact quo_step hiK (HG0.out i (by omega)) HV.out (fun k hk => HOUT.out k (.inl hk)) (by rw [HVAL.out, HDV.out])
        · rw [HVAL.out, HDV.out]; exact Nat.mod_lt _ hD0.out
      case measure => simp [intOf]

theorem quotient_any (A B : Option Addr) (m n ca cb : Nat) (w : World) (ha : Rd w A (len m) (dg m)) (hb' : Rd w B (len n) (dg n)) (hL : len m ≤ 33554432) (hM : len n ≤ 33554432) (hn : n ≠ 0) :
    Calls Tryz.prog 108 #[.slice A (len m) ca, .slice B (len n) cb] w (QuoRes m n w) := by
  rcases Nat.lt_or_ge m n with h | h
  · exact quotient_lt A B m n ca cb w ha hb' (by omega) h
  · exact quotient_ge A B m n ca cb w ha hb' hL hM hn h

end Go.Proofs.YtlnphamgmicniaaGreatDoor
