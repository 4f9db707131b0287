/- Functions on natural numbers, part 9: trailing zeros; the tables of the library. -/
import Derived.Test.YtlnphamgmicniaaGreatDoorMnatg
import Derived.Shelf.Spec.TrailingZeros
import Derived.Deep.DeepCutAuto
namespace Go.Proofs.YtlnphamgmicniaaGreatDoor

/-! ### Nati -/
section
open Go.RowKit

/-- The library's table of trailing zeros lies as its text lays it. -/
def Tabs (w : World) : Prop := TabAt 1 Lib.deBruijn32tab w
theorem Tabs.ext {w w' : World} (h : Tabs w) (e : Ext w w') : Tabs w' := fun j hj => by
  have h1 := h j hj
  exact (e.old.1 _ _ (World.block_lt_of_cell? w _ h1)).trans h1

set_option maxRecDepth 100000 in
set_option maxHeartbeats 1000000 in
theorem tz32_core (x k idx : Nat) (w : World) (hx0 : ((x : Int) == 0) = false)
    (key : bits BinOp.and IntKind.u32 (x : Int) (-(x : Int) % 4294967296) * 125613361 % 4294967296 / 134217728 = (idx : Int))
    (hi : idx < 32) (hk : k < 32) (hcell : w.cell? ⟨1, idx, none⟩ = some (.int .u8 k)) :
    Calls Tryz.prog 155 #[U4 x] w fun e w' => e = .returned (I k) ∧ w = w' := by
  go_enter Tryz.func155, Tryz.ntmps155
  go_wp2_with (simp only [key])
  go_ret
  exact ⟨rfl, rfl⟩
theorem tz32_any (x : Nat) (hx : x < 4294967296) (hx0 : x ≠ 0) (w : World) (hT : Tabs w) : Calls Tryz.prog 155 #[U4 x] w fun e w' => e = .returned (I (Lib.ctz 32 x)) ∧ w = w' := by
  obtain ⟨hlow, hk⟩ := Lib.lowest_bit 32 x hx0 hx
  obtain ⟨hi, htab⟩ := Lib.deBruijn32_at _ hk
  have hcell := hT _ hi
  rw [htab] at hcell
  exact tz32_core x _ _ w (by simp; omega) (tz32_key x _ hx hx0 hlow) hi hk hcell

def IsTz (m T : Nat) : Prop := (∀ i, i < T → m / 2 ^ i % 2 = 0) ∧ m / 2 ^ T % 2 = 1
theorem isTz_hv {m T k : Nat} (h : IsTz m T) : hv m k = min T k := by
  refine hv_of_bits (Nat.min_le_right _ _) (fun i hi => h.1 i (by omega)) (fun hk => ?_)
  rw [show min T k = T by omega]; exact h.2
theorem ctz_bits {x : Nat} (hx : x < 4294967296) (h0 : x ≠ 0) : (∀ i, i < Lib.ctz 32 x → x / 2 ^ i % 2 = 0) ∧ x / 2 ^ Lib.ctz 32 x % 2 = 1 ∧ Lib.ctz 32 x < 32 := by
  obtain ⟨m, hm, hk⟩ := Lib.ctzFrom_spec 32 x (by omega) hx
  have e : Lib.ctz 32 x = Lib.ctzFrom 32 x := by simp [Lib.ctz, h0]
  rw [e]
  generalize Lib.ctzFrom 32 x = k at *
  refine ⟨fun i hi => ?_, ?_, hk⟩
  · obtain ⟨j, rfl⟩ : ∃ j, k = i + (j + 1) := ⟨k - i - 1, by omega⟩
    rw [hm, Nat.pow_add, Nat.mul_assoc, Nat.mul_div_cancel_left _ (p2_pos i), Nat.pow_succ, Nat.mul_comm (2 ^ j), Nat.mul_assoc]
    omega
  · rw [hm, Nat.mul_div_cancel_left _ (p2_pos k)]; omega
theorem isTz_of {m i x : Nat} (h0 : ∀ j, j < i → dg m j = 0) (hx : dg m i = x) (hne : x ≠ 0) : IsTz m (i * 32 + Lib.ctz 32 x) := by
  obtain ⟨h1, h2, h3⟩ := ctz_bits (x := x) (by rw [← hx]; exact dg_lt _ _) hne
  generalize Lib.ctz 32 x = k at *
  constructor
  · intro j hj
    rw [← bit_dg]
    rcases Nat.lt_or_ge (j / 32) i with h | h
    · rw [h0 _ h]; simp
    · have : j / 32 = i := by omega
      rw [this, hx]; exact h1 _ (by omega)
  · rw [← bit_dg, show (i * 32 + k) / 32 = i by omega, hx, show (i * 32 + k) % 32 = k by omega]; exact h2

def TzRes (m : Nat) (w : World) (e : Ending) (w' : World) : Prop := ∃ T : Nat, e = .returned (I T) ∧ IsTz m T ∧ T < len m * 32 ∧ w = w'
set_option maxRecDepth 100000 in
set_option maxHeartbeats 1000000 in
theorem trailingZeros_any (A : Option Addr) (m ca : Nat) (w : World) (hT : Tabs w) (ha : Rd w A (len m) (dg m)) (hm : m ≠ 0) (hL : len m ≤ 1073741824) :
    Calls Tryz.prog 134 #[.slice A (len m) ca] w (TzRes m w) := by
  have HA := Lib.hid ha; clear ha
  have HT := Lib.hid hT; clear hT
  have htop := Lib.hid (dg_top hm)
  have hpos : 0 < len m := by have := len_pos hm; omega
  clear hm
  obtain ⟨L, hLe⟩ : ∃ L, len m = L := ⟨_, rfl⟩
  rw [hLe] at hL HA hpos ⊢
  have HLe := Lib.hid hLe; clear hLe
  go_enter Tryz.func134, Tryz.ntmps134
  go_wp2
  go_loop [3] (fun s => ∃ i : Nat, i < L ∧ s = I i ∧ Hid (∀ j, j < i → dg m j = 0)) (fun s => L - (intOf s).toNat)
  case atStart => exact ⟨0, hpos, rfl, fun j hj => by omega⟩
  case round =>
    obtain ⟨i, hi, rfl, hz⟩ := hrel
    obtain ⟨b2, o2, rfl, hb2, c2⟩ := HA.out.at_ hi
    by_cases h0 : dg m i = 0
    · have hi1 : i + 1 < L := by
        rcases Nat.lt_or_ge (i + 1) L with h | h
        · exact h
        · exfalso; have := htop.out; rw [HLe.out, show L - 1 = i by omega] at this; exact this h0
      have hz' : Hid (∀ j, j < i + 1 → dg m j = 0) := fun j hj => by
        by_cases e : j = i
        · subst e; exact h0
        · exact hz.out j (by omega)
      rw [h0] at c2
      clear h0 hz
      go_wp2
      go_round
      case rel => exact ⟨i + 1, hi1, by go_num, hz'⟩
      case measure => simp [intOf]; omega
    · have hxl := dg_lt m i
      obtain ⟨x, hxe⟩ : ∃ x, dg m i = x := ⟨_, rfl⟩
      have hzz := Lib.hid (isTz_of hz.out hxe (by rw [← hxe]; exact h0))
      have h1 : ((x : Int) == 0) = false := by simp; omega
      have h2 : x ≠ 0 := by omega
      have hcz := (ctz_bits (x := x) (by omega) h2).2.2
      rw [hxe] at c2 hxl
      obtain ⟨k, hk⟩ : ∃ k, Lib.ctz 32 x = k := ⟨_, rfl⟩
      rw [hk] at hzz hcz
      have HK := Lib.hid hk
      have H2 := Lib.hid h2
      clear hxe h0 hz hk h2
      go_wp2_with (go_at_call 155; refine (tz32_any x hxl H2.out _ HT.out).mono ?_; rintro e w' ⟨rfl, rfl⟩; rw [HK.out])
      go_ret
      exact ⟨i * 32 + k, by rfl, hzz.out, by have := HLe.out; omega, rfl⟩
end

/-! ### Natj -/
section
open Go.RowKit

theorem tk_step {c t x y lo lf hi : Nat} (hc : c ≤ 4294967296) (ht : t ≤ 4294967295) (hx : x < 4294967296) (hy : y < 4294967296) (hlo : (c + t * x) % 4294967296 = lo) (hhi : (c + t * x) / 4294967296 = hi)
    (hlf : ((y : Int) - lo) % 18446744073709551616 = (lf : Int)) :
    lf % 4294967296 + (c + t * x) = y + (hi + lf / 9223372036854775808) * 4294967296 ∧ hi + lf / 9223372036854775808 ≤ 4294967296 ∧ c + t * x < 18446744073709551616 ∧ t * x < 18446744073709551616 := by
  have h1 : t * x ≤ 4294967295 * 4294967295 := Nat.mul_le_mul ht (by omega)
  generalize t * x = p at *
  omega
theorem tk_est {F f : Nat → Nat} {L q0 fst : Nat} (hF : ∀ i, i < L + 2 → F i < 4294967296) (hM : F (L + 1) * 4294967296 + F L = fst) (ht : 0 < f L) (hQ : q0 * valN f (L + 1) ≤ valN F (L + 2)) : q0 ≤ fst / f L := by
  refine quo_le L (M := valN F (L + 2)) (N := valN f (L + 1)) ?_ ?_ ht q0 hQ
  · have hb := valN_lt (f := F) (k := L) (fun i hi => hF i (by omega))
    rw [valN, valN, ← hM, pB_succ, Nat.add_mul, Nat.add_mul, ← Nat.mul_assoc]
    omega
  · rw [valN]; omega
theorem tk_neg {V M N t P : Nat} {top : Int} (hV : V < P) (h : (V : Int) + top * P = (M : Int) - (t : Int) * N) (ht : top < 0) : M < t * N := by
  have h1 : top * P ≤ -1 * P := Int.mul_le_mul_of_nonneg_right (by omega) (by omega)
  have h2 : ((t * N : Nat) : Int) = (t : Int) * N := by simp
  omega
theorem tk_pos {V M N t P : Nat} {top : Int} (hN : N < P) (hNP : 0 < N) (h : (V : Int) + top * P = (M : Int) - (t : Int) * N) (ht : 0 ≤ top) (hQ : M / N ≤ t) : t = M / N ∧ top = 0 ∧ V = M % N := by
  have h0 : 0 ≤ top * P := Int.mul_nonneg ht (by omega)
  have h2 : ((t * N : Nat) : Int) = (t : Int) * N := by simp
  have h3 : t * N ≤ M := by omega
  have h4 : t ≤ M / N := (Nat.le_div_iff_mul_le hNP).2 h3
  have h5 : t = M / N := by omega
  have h6 := Nat.div_add_mod M N
  have h7 := Nat.mod_lt M hNP
  rw [← h5, Nat.mul_comm] at h6
  have h8 : top = 0 := by
    rcases Int.lt_or_le 0 top with h | h
    · have : 1 * (P : Int) ≤ top * P := Int.mul_le_mul_of_nonneg_right (by omega) (by omega)
      omega
    · omega
  subst h8
  exact ⟨h5, rfl, by omega⟩

def TakePost (w : World) (base g N C o L : Nat) (F f : Nat → Nat) (e : Ending) (w' : World) : Prop :=
  ∃ F' : Nat → Nat, e = .returned (U4 (valN (fun i => F (o + i)) (L + 1) / valN f L)) ∧ Row w' base g N C F' ∧ w.grownBy w' (some g) ∧ (∀ i, i < N → F' i < 4294967296) ∧ (∀ i, i < o ∨ o + (L + 1) ≤ i → F' i = F i) ∧ F' (o + L) = 0 ∧
    valN (fun i => F' (o + i)) L = valN (fun i => F (o + i)) (L + 1) % valN f L

set_option maxRecDepth 100000 in
set_option maxHeartbeats 1000000 in
theorem takeOff_any (base g N C o l cm cn : Nat) (F f : Nat → Nat) (B : Option Addr) (w : World) (hrow : Row w base g N C F) (ho : o + (l + 1 + 1) ≤ N) (hN : N ≤ 1099511627776) (hcm : l + 1 + 1 ≤ cm) (hB : Rd w B (l + 1) f) (hne : ∀ a, B = some a → a.block ≠ g)
    (hF : ∀ i, i < N → F i < 4294967296) (hf : ∀ i, i < l + 1 → f i < 4294967296) (htop : 0 < f l) (hM : valN (fun i => F (o + i)) (l + 1 + 1) < valN f (l + 1) * 4294967296) :
    Calls Tryz.prog 140 #[.slice (some ⟨g, o, none⟩) (l + 1 + 1) cm, .slice B (l + 1) cn] w (TakePost w base g N C o (l + 1) F f) := by
  have HR := Lib.hid hrow; clear hrow
  have HB := Lib.hid hB; clear hB
  have HN := Lib.hid hne; clear hne
  have HF := Lib.hid hF; clear hF
  have Hf := Lib.hid hf; clear hf
  have hNp : 0 < valN f (l + 1) := by
    rw [valN]; have := pB_pos l
    have : 1 * 1 ≤ f l * pB l := Nat.mul_le_mul htop (pB_pos l)
    omega
  have hNl := valN_lt Hf.out
  have HQ : Hid (valN (fun i => F (o + i)) (l + 1 + 1) / valN f (l + 1) ≤ 4294967295) := by
    have := (Nat.div_lt_iff_lt_mul hNp).2 (by rw [Nat.mul_comm]; exact hM)
    show _ ≤ _; omega
  have HNp := Lib.hid hNp
  have HNl := Lib.hid hNl
  have HEst : Hid (∀ fst nt, F (o + (l + 1)) * 4294967296 + F (o + l) = fst → f l = nt → valN (fun i => F (o + i)) (l + 1 + 1) / valN f (l + 1) ≤ fst / nt) := fun fst nt h1 h2 => by
    subst h2
    exact tk_est (F := fun i => F (o + i)) (L := l) (fun i hi => HF.out _ (by omega)) h1 htop (Nat.div_mul_le_self _ _)
  clear hM hNp hNl
  have c1 := HR.out.cell (k := o + (l + 1)) (by omega)
  have c2 := HR.out.cell (k := o + l) (by omega)
  obtain ⟨b3, o3, rfl, hb3, c3⟩ := HB.out.at_ (k := l) (by omega)
  have h1b := HF.out (o + (l + 1)) (by omega)
  have h2b := HF.out (o + l) (by omega)
  have h3b := Hf.out l (by omega)
  obtain ⟨x1, hx1⟩ : ∃ x, F (o + (l + 1)) = x := ⟨_, rfl⟩
  obtain ⟨x2, hx2⟩ : ∃ x, F (o + l) = x := ⟨_, rfl⟩
  obtain ⟨nt, hnt⟩ : ∃ x, f l = x := ⟨_, rfl⟩
  rw [hx1] at c1 h1b
  rw [hx2] at c2 h2b
  rw [hnt] at c3 h3b htop
  obtain ⟨fst, hfst⟩ : ∃ fst, x1 * 4294967296 + x2 = fst := ⟨_, rfl⟩
  have hes := HEst.out fst nt (by rw [hx1, hx2]; exact hfst) hnt
  have hfb : fst < 18446744073709551616 := by omega
  have ef : bits BinOp.or IntKind.u64 ((x1 : Int) * 4294967296) (x2 : Int) = (fst : Int) := by
    have : (x1 : Int) * 4294967296 = ((x1 * 4294967296 : Nat) : Int) := by omega
    rw [this, or_nat64 (by omega) (by omega)]
    have h := or_add (a := x2) (b := x1) (p := 32) (by omega)
    rw [Nat.or_comm, show (4294967296 : Nat) = 2 ^ 32 by decide, h]; omega
  obtain ⟨qe, hqe⟩ : ∃ qe, fst / nt = qe := ⟨_, rfl⟩
  have eq1 : (fst : Int) / (nt : Int) = (qe : Int) := by rw [← hqe]; simp
  rw [hqe] at hes
  have hqb : qe < 18446744073709551616 := by rw [← hqe]; exact Nat.lt_of_le_of_lt (Nat.div_le_self _ _) hfb
  obtain ⟨t0, ht0⟩ : ∃ t0, min qe 4294967295 = t0 := ⟨_, rfl⟩
  have ht0b : t0 ≤ 4294967295 := by omega
  have hQt : Hid (valN (fun i => F (o + i)) (l + 1 + 1) / valN f (l + 1) ≤ t0) := by have := HQ.out; show _ ≤ _; omega
  have hX1 := Lib.hid hx1
  have HT0 := Lib.hid ht0
  clear hx1 hx2 hnt hfst hes hqe HEst ht0
  have hnt0 : ¬ (nt : Int) = 0 := by omega
  have i1 : (0 : Int) ≤ (l : Int) := by omega
  have i2 : (l : Int) + 1 < (l : Int) + 1 + 1 := by omega
  have i3 : IntKind.i64.wrap ((l : Int) + 1 - 1) = (l : Int) := by rw [IntWalk.i64_in _ (by omega)]; omega
  have i4 : (0 : Int) ≤ (l : Int) + 1 := by omega
  have i5 : ((l : Int) + 1).toNat = l + 1 := by omega
  have i6 : (l : Int) < (l : Int) + 1 + 1 := by omega
  go_enter Tryz.func140, Tryz.ntmps140
  go_upto_region 2 with fail
  go_quiet (fail)
  go_upto_region 3 with fail
  go_cut [7] (fun s7 wx => s7 = U8 t0 ∧ Hid (Row wx base g N C F) ∧ w.grownBy wx (some g))
  case first =>
    go_wp2_with fail
    all_goals
      go_meet
      refine ⟨?_, HR.out.drewN _, fr_ext _ (Ext.drewN _ _)⟩
      have := HT0.out
      congr 1
      omega
  case rest =>
    obtain ⟨rfl, hR0, hfr0⟩ := hcut
    clear c1 c2 c3 ef eq1 HT0 hqb hnt0 i2 i3 i4 i5 i6
    go_wp2_with fail
    go_loopw [8, 39] (fun sc si wr => ∃ (k c : Nat) (G : Nat → Nat), k ≤ l + 1 ∧ si = I k ∧ sc = U8 c ∧ c ≤ 4294967296 ∧ Hid (Row wr base g N C G) ∧ w.grownBy wr (some g) ∧ Hid (∀ i, i < N → G i < 4294967296) ∧ Hid (∀ i, i < o ∨ o + k ≤ i → G i = F i) ∧
      Hid (valN (fun i => G (o + i)) k + t0 * valN f k = valN (fun i => F (o + i)) k + c * pB k)) (fun _ si _ => l + 1 - (intOf si).toNat)
    case atStart => exact ⟨0, 0, F, Nat.zero_le _, rfl, rfl, by omega, hR0, hfr0, HF.out, (fun _ _ => rfl), by show _ = _; simp [valN]⟩
    case round =>
      clear hR0 hfr0
      obtain ⟨k, c, G, hk, rfl, rfl, hc, hR, hfr, hG, hGo, hv⟩ := hrel
      by_cases hlt : k < l + 1
      · obtain ⟨b2, o2, e2, hb2, c2⟩ := (HB.out.fr hfr HN.out).at_ hlt
        injection e2 with e2; injection e2 with e2 e3; subst e2; subst e3
        have c1 := hR.out.cell (k := o + k) (by omega)
        have f1 := hR.out.frozen (o + k)
        have hyl := hG.out (o + k) (by omega)
        have hxl := Hf.out k (by omega)
        have hGF : Hid (F (o + k) = G (o + k)) := (hGo.out (o + k) (by omega)).symm
        obtain ⟨y, hye⟩ : ∃ y, G (o + k) = y := ⟨_, rfl⟩
        obtain ⟨x, hxe⟩ : ∃ x, f k = x := ⟨_, rfl⟩
        rw [hye] at c1 hyl
        rw [hxe] at c2 hxl
        have HY := Lib.hid hye; clear hye
        have HX := Lib.hid hxe; clear hxe
        obtain ⟨p, hp⟩ : ∃ p, t0 * x = p := ⟨_, rfl⟩
        obtain ⟨lo, hlo⟩ : ∃ lo, (c + t0 * x) % 4294967296 = lo := ⟨_, rfl⟩
        obtain ⟨hi, hhi⟩ : ∃ hi, (c + t0 * x) / 4294967296 = hi := ⟨_, rfl⟩
        obtain ⟨lf, hlf⟩ : ∃ lf : Nat, ((y : Int) - lo) % 18446744073709551616 = (lf : Int) := ⟨(((y : Int) - lo) % 18446744073709551616).toNat, by omega⟩
        obtain ⟨s1, s2, s3, s4⟩ := tk_step hc ht0b hxl hyl hlo hhi hlf
        have hs := Lib.hid (take_step (S := valN (fun i => G (o + i)) k) (t := t0) (Y := valN f k) (X := valN (fun i => F (o + i)) k) (c := c) (pk := pB k) (x := x) (r := lf % 4294967296) (x' := y) (c' := hi + lf / 9223372036854775808) hv.out s1)
        obtain ⟨r, hr⟩ : ∃ r, lf % 4294967296 = r := ⟨_, rfl⟩
        obtain ⟨br, hbr⟩ : ∃ br, lf / 9223372036854775808 = br := ⟨_, rfl⟩
        have hs2 := hs.out
        rw [hr, hbr] at hs2
        rw [hbr] at s2
        have HS := Lib.hid hs2
        have hrb : r < 4294967296 := by omega
        rw [hp] at s3 s4 hlo hhi
        obtain ⟨c1', hc1'⟩ : ∃ c1', c + p = c1' := ⟨_, rfl⟩
        rw [hc1'] at s3 hlo hhi
        have e1 : (t0 : Int) * (x : Int) = (p : Int) := by rw [← hp]; simp
        have e2 : (c : Int) + (p : Int) = (c1' : Int) := by omega
        have e3 : (c1' : Int) % 4294967296 = (lo : Int) := by omega
        have e4 : (c1' : Int) / 4294967296 = (hi : Int) := by omega
        have e5 : IntKind.u64.wrap ((y : Int) - (lo : Int)) = (lf : Int) := hlf
        have e6 : (lf : Int) % 4294967296 = (r : Int) := by omega
        have e7 : (lf : Int) / 9223372036854775808 = (br : Int) := by omega
        clear hs hs2 s1 hp hlo hhi hlf hr hbr hc1' hv
        go_wp2
        go_roundw
        case rel =>
          refine ⟨k + 1, hi + br, upd G (o + k) r, by omega, by go_num, by go_num, s2, Row.set hR.out _ _, fr_trans hfr (Row.set_fr hR.out (o + k) r), upd_lt hG.out hrb, ?_, ?_⟩
          · exact fun i hi => by rw [upd_ne _ (by omega)]; exact hGo.out i (by omega)
          · show _ = _
            have e1 : valN (fun i => upd G (o + k) r (o + i)) (k + 1) = valN (fun i => G (o + i)) k + r * pB k := by
              rw [valN, upd_same]; congr 1; exact valN_congr fun i hi => upd_ne _ (by omega)
            rw [e1, valN, valN, pB_succ, hGF.out, HY.out, HX.out]
            exact HS.out
        case measure => simp [intOf]; omega
      · obtain rfl : k = l + 1 := by omega
        have c1 := hR.out.cell (k := o + (l + 1)) (by omega)
        rw [hGo.out (o + (l + 1)) (by omega), hX1.out] at c1
        have hV : Hid (((valN (fun i => G (o + i)) (l + 1) : Nat) : Int) + ((x1 : Int) - (c : Int)) * (pB (l + 1) : Nat) = ((valN (fun i => F (o + i)) (l + 1 + 1) : Nat) : Int) - (t0 : Int) * (valN f (l + 1) : Nat)) := by
          show _ = _
          have h1 := hv.out
          have h2 : valN (fun i => F (o + i)) (l + 1 + 1) = valN (fun i => F (o + i)) (l + 1) + x1 * pB (l + 1) := by rw [valN, hX1.out]
          rw [h2, Int.sub_mul]
          have h3 := congrArg (Nat.cast (R := Int)) h1
          simp only [Int.natCast_add, Int.natCast_mul] at h3 ⊢
          omega
        clear hv
        have HC := Lib.hid c1
        clear c1
        obtain ⟨M, hM⟩ : ∃ M, valN (fun i => F (o + i)) (l + 1 + 1) = M := ⟨_, rfl⟩
        obtain ⟨Nn, hNn⟩ : ∃ Nn, valN f (l + 1) = Nn := ⟨_, rfl⟩
        rw [hM, hNn] at hV hQt
        rw [hNn] at HNp HNl
        have HMM := Lib.hid hM; have HNN := Lib.hid hNn
        clear hM hNn HQ
        have c1 := HC.out
        go_wp2_with fail
        go_loopw [7, 12] (fun s7 s12 wq => ∃ (t : Nat) (top : Int) (G' : Nat → Nat), s7 = U8 t ∧ s12 = I top ∧ -8589934592 ≤ top ∧ top ≤ 8589934592 ∧ t ≤ 4294967295 ∧ Hid (M / Nn ≤ t) ∧ Hid (Row wq base g N C G') ∧ w.grownBy wq (some g) ∧ Hid (∀ i, i < N → G' i < 4294967296) ∧ Hid (∀ i, i < o ∨ o + (l + 1) ≤ i → G' i = F i) ∧
          Hid (((valN (fun i => G' (o + i)) (l + 1) : Nat) : Int) + top * (pB (l + 1) : Nat) = (M : Int) - (t : Int) * (Nn : Nat))) (fun s7 _ _ => (intOf s7).toNat)
        case atStart => exact ⟨t0, (x1 : Int) - c, G, rfl, rfl, by omega, by omega, ht0b, hQt, hR, hfr, hG, hGo, hV⟩
        case round =>
          clear hR hfr hG hGo hV hQt c1 HC
          obtain ⟨t, top, G', rfl, rfl, hb1, hb2, htb, hQt, hR, hfr, hG, hGo, hV⟩ := hrel
          have hVl := valN_lt (f := fun i => G' (o + i)) (k := l + 1) (fun i hi => hG.out _ (by omega))
          by_cases htn : top < 0
          · have hlt := tk_neg hVl hV.out htn
            have htq : M / Nn < t := (Nat.div_lt_iff_lt_mul HNp.out).2 hlt
            have ht1 : 1 ≤ t := Nat.lt_of_le_of_lt (Nat.zero_le _) htq
            obtain ⟨t', rfl⟩ : ∃ t', t = t' + 1 := ⟨t - 1, by omega⟩
            have hQ' : Hid (M / Nn ≤ t') := Nat.le_of_lt_succ htq
            have ew : IntKind.u64.wrap (t' : Int) = (t' : Int) := wrap_u64_nat (by omega)
            clear hlt htq hVl ht1
            go_wp2_with (go_at_call 137; refine (addTo_any base g N C o (l + 1) cm cn G' f _ _ hR.out (by omega) (by omega) (HB.out.fr hfr HN.out) (fun _ => HN.out) hG.out Hf.out).mono ?_; rintro e w5 ⟨G2, cy, rfl, hrow2, hfr2, hb2', ho2, hcy2, hv2⟩)
            go_roundw
            case rel =>
              refine ⟨_, _, _, _, _, _, _, _, _, _, _, _, _, _, ⟨t', top + cy, G2, rfl, rfl, by omega, by omega, by omega, hQ', hrow2, fr_trans hfr hfr2, hb2', fun i hi => by rw [ho2 i hi]; exact hGo.out i hi, ?_⟩, rfl⟩
              show _ = _
              have h1 := hV.out
              have h3 := congrArg (Nat.cast (R := Int)) hv2
              rw [HNN.out] at h3
              simp only [Int.natCast_add, Int.natCast_mul] at h3
              rw [Int.add_mul]
              have h4 : ((t' + 1 : Nat) : Int) * (Nn : Int) = (t' : Int) * Nn + Nn := by rw [Int.natCast_add, Int.add_mul]; simp
              rw [h4] at h1
              omega
            case measure => simp [intOf]
          · obtain ⟨e1, e2, e3⟩ := tk_pos HNl.out HNp.out hV.out (by omega) hQt.out
            have f1 := hR.out.frozen (o + (l + 1))
            have c1 := hR.out.cell (k := o + (l + 1)) (by omega)
            have HE1 := Lib.hid e1
            have HE3 := Lib.hid e3
            clear e1 e2 e3 hVl
            go_wp2_with fail
            go_ret
            refine ⟨upd G' (o + (l + 1)) 0, by rw [HMM.out, HNN.out, ← HE1.out]; rfl, Row.set hR.out _ _, fr_trans hfr (Row.set_fr hR.out _ _), upd_lt hG.out (by decide), fun i hi => ?_, upd_same _ _ _, ?_⟩
            · rw [upd_ne _ (by omega)]; exact hGo.out i (by omega)
            · rw [HMM.out, HNN.out, ← HE3.out]; exact valN_congr fun i hi => upd_ne _ (by omega)
end

end Go.Proofs.YtlnphamgmicniaaGreatDoor
