import Derived.Test.YtgnngldlgcdnfaaGreatDoorSx
import Derived.Test.YtgnngldlgcdnfaaGreatDoorRai
import Derived.Test.YtgnngldlgcdnfaaGreatDoorRag
import Derived.Test.YtgnngldlgcdnfaaGreatDoorQaq
namespace Go.Proofs.YtgnngldlgcdnfaaGreatDoor
section
open Go.RowKit
theorem cntR_mono {n : Nat} {p q : Nat → Bool} (h : ∀ i, i < n → p i = true → q i = true) : cnt n p ≤ cnt n q := by
 induction n with
 | zero => exact Nat.le_refl _
 | succ n ih =>
  unfold cnt
  have a := ih fun i hi => h i (by omega)
  have b := h n (by omega)
  cases hp : p n with
  | false => simp; omega
  | true => rw [b hp]; simp; omega
theorem cnt_less {n : Nat} {p q : Nat → Bool} (h : ∀ i, i < n → p i = true → q i = true) {j : Nat} (hj : j < n) (h1 : p j = false) (h2 : q j = true) : cnt n p < cnt n q := by
 induction n with
 | zero => omega
 | succ n ih =>
  unfold cnt
  by_cases e : j = n
  ·subst e
   have a := cntR_mono (n := j) (p := p) (q := q) fun i hi => h i (by omega)
   rw [h1, h2]; simp; omega
  ·have a := ih (fun i hi => h i (by omega)) (by omega)
   have b := h n (by omega)
   cases hp : p n with
   | false => simp; omega
   | true => rw [b hp]; simp; omega
def smF (f : Nat → Nat) : Nat → Nat
 | 0 => 0
 | n + 1 => smF f n + f n
theorem smF_mono {f g : Nat → Nat} : ∀ n, (∀ i, i < n → f i ≤ g i) → smF f n ≤ smF g n
 | 0, _ => Nat.le_refl _
 | n + 1, h => by unfold smF; have a := smF_mono n fun i hi => h i (by omega); have b := h n (by omega); omega
theorem smF_less {f g : Nat → Nat} {j : Nat} : ∀ n, (∀ i, i < n → f i ≤ g i) → j < n → f j < g j → smF f n < smF g n
 | 0, _, h, _ => by omega
 | n + 1, h, hj, hl => by
  unfold smF
  by_cases e : j = n
  ·subst e
   have a := smF_mono j fun i hi => h i (by omega)
   omega
  ·have a := smF_less n (fun i hi => h i (by omega)) (by omega) hl
   have b := h n (by omega)
   omega
theorem smF_le {f : Nat → Nat} {c : Nat} (h : ∀ i, f i ≤ c) : ∀ n, smF f n ≤ n * c
 | 0 => by unfold smF; omega
 | n + 1 => by unfold smF; have a := smF_le h n; have b := h n; rw [Nat.succ_mul]; omega
def rkH (P : Nat → Rat) (m : Nat) (u : Rat) : Nat := cnt m fun j => decide (u < P j)
def rkL (P : Nat → Rat) (m : Nat) (u : Rat) : Nat := cnt m fun j => decide (P j < u)
theorem rkH_mono {P : Nat → Rat} {m : Nat} {u v : Rat} (h : u ≤ v) : rkH P m v ≤ rkH P m u := cntR_mono fun i _ q => by simp at q ⊢; grind
theorem rkH_less {P : Nat → Rat} {m j : Nat} {u v : Rat} (h : u ≤ v) (hn : v ≠ u) (hj : j < m) (e : v = P j) : rkH P m v < rkH P m u :=
 cnt_less (fun i _ q => by simp at q ⊢; grind) hj (by simp [e]) (by simp; grind)
theorem rkL_mono {P : Nat → Rat} {m : Nat} {u v : Rat} (h : v ≤ u) : rkL P m v ≤ rkL P m u := cntR_mono fun i _ q => by simp at q ⊢; grind
theorem rkL_less {P : Nat → Rat} {m j : Nat} {u v : Rat} (h : v ≤ u) (hn : v ≠ u) (hj : j < m) (e : v = P j) : rkL P m v < rkL P m u :=
 cnt_less (fun i _ q => by simp at q ⊢; grind) hj (by simp [e]) (by simp; grind)
theorem seq_ends {P : Nat → Rat} {m n r N : Nat} {H L : Nat → Nat → Rat} (h1 : ∀ k, r ≤ k → k < N → ∀ i, i < n → H k i ≤ H (k + 1) i ∧ L (k + 1) i ≤ L k i)
  (h2 : ∀ k, r ≤ k → k < N → ∀ i, i < n → (H (k + 1) i ≠ H k i → ∃ j, j < m ∧ H (k + 1) i = P j) ∧ (L (k + 1) i ≠ L k i → ∃ j, j < m ∧ L (k + 1) i = P j))
  (h3 : ∀ k, r ≤ k → k < N → ∃ i, i < n ∧ (H (k + 1) i ≠ H k i ∨ L (k + 1) i ≠ L k i)) : N ≤ r + n * (m + m) := by
 have step : ∀ k, r ≤ k → k < N → smF (fun i => rkH P m (H (k + 1) i) + rkL P m (L (k + 1) i)) n < smF (fun i => rkH P m (H k i) + rkL P m (L k i)) n := fun k hk hN => by
  obtain ⟨i, hi, hc⟩ := h3 k hk hN
  refine smF_less n (fun j hj => ?_) hi ?_
  ·have := h1 k hk hN j hj
   have a := rkH_mono (P := P) (m := m) this.1; have b := rkL_mono (P := P) (m := m) this.2
   omega
  ·have a := h1 k hk hN i hi; have b := h2 k hk hN i hi
   have c := rkH_mono (P := P) (m := m) a.1; have d := rkL_mono (P := P) (m := m) a.2
   rcases hc with hc | hc
   ·obtain ⟨j, hj, e⟩ := b.1 hc
    have := rkH_less a.1 hc hj e
    omega
   ·obtain ⟨j, hj, e⟩ := b.2 hc
    have := rkL_less a.2 hc hj e
    omega
 have top : ∀ k, smF (fun i => rkH P m (H k i) + rkL P m (L k i)) n ≤ n * (m + m) := fun k => smF_le (fun i => by
  have a := cnt_le m (fun j => decide (H k i < P j)); have b := cnt_le m (fun j => decide (P j < L k i))
  unfold rkH rkL; omega) n
 have down : ∀ d, r + d ≤ N → smF (fun i => rkH P m (H (r + d) i) + rkL P m (L (r + d) i)) n + d ≤ n * (m + m) := fun d => by
  induction d with
  | zero => intro _; exact top r
  | succ d ih => intro h; have a := ih (by omega); have b := step (r + d) (by omega) (by omega); rw [show r + (d + 1) = r + d + 1 by omega]; omega
 by_cases q : r ≤ N
 ·have := down (N - r) (by omega); omega
 ·omega
theorem paD_mem {x : DV} (hl : len x.m ≤ 1000) : (paD x).q = 0 ∨ ∃ s : Nat, (paD x).q = qOf false (2 ^ s) 30 ∨ (paD x).q = -(qOf false (2 ^ s) 30) := by
 have hyd : (ceilD x 30).den ≤ 30 := ceil_den 30 (by decide)
 have hyl := lim_ceil x 30
 have hyo : (ceilD x 30).ok := negD_ok _
 unfold paD
 generalize ceilD x 30 = y at *
 by_cases s0 : signD y = 0
 ·rw [if_pos s0]
  left
  have hm : y.m = 0 := by
   unfold signD at s0
   by_cases h : y.m = 0
   ·exact h
   ·rw [if_neg h] at s0; split at s0 <;> omega
  unfold DV.q; rw [hm]; exact qOf_zero _ _
 rw [if_neg s0]
 right
 have hm : y.m ≠ 0 := fun h => s0 (by unfold signD; rw [if_pos h])
 obtain ⟨t, ht⟩ : ∃ t, bitsN y.m = t + 1 := ⟨bitsN y.m - 1, by rw [bitsN_pos hm]; omega⟩
 have b1 := bits_ge t y.m ht
 have b3 := bitsN_len y.m
 have he : xpD y = (t : Int) - y.den := by unfold xpD; omega
 have hq : qOf false (y.m * 2 ^ (30 - y.den)) 30 = qOf false y.m y.den := by
  have := qOf_shift false y.m y.den (30 - y.den)
  rwa [show y.den + (30 - y.den) = 30 by omega] at this
 have p1 := pw_q (e := xpD y) (by omega) (by omega)
 have p2 := pw_q (e := xpD y + 1) (by omega) (by omega)
 by_cases s1 : signD y < 0
 ·rw [if_pos s1, q_negD (pwD_len _).1]
  exact ⟨_, .inr (by rw [p1])⟩
 ·rw [if_neg s1]
  split
  ·exact ⟨_, .inl p2⟩
  ·rename_i hc
   refine ⟨(xpD y + 30).toNat, .inl ?_⟩
   have hn : y.neg = false := by
    unfold signD at s1; rw [if_neg hm] at s1
    cases h : y.neg with
    | false => rfl
    | true => rw [h] at s1; simp at s1
   have e1 : y.q = qOf false y.m y.den := by unfold DV.q; rw [hn]
   have g1 : (pwD (xpD y)).q ≤ y.q := by
    rw [p1, e1, ← hq, show (xpD y + 30).toNat = t + (30 - y.den) by omega, Nat.pow_add]; exact qOf_mono (Nat.mul_le_mul_right _ b1)
   have g2 : y.q ≤ (pwD (xpD y)).q := by
    rw [cmpD_sgn (pwD_len _).1 hyo] at hc
    have := sgn_ngt (r := y.q - (pwD (xpD y)).q)
    unfold sgn at hc
    by_cases z : (pwD (xpD y)).q - y.q < 0
    ·rw [if_pos z] at hc; exact absurd (by decide) hc
    ·grind
   rw [← p1]; grind
def endP (j : Nat) : Rat := if j = 0 then 0 else if j % 2 = 1 then qOf false (2 ^ (j / 2)) 30 else -(qOf false (2 ^ (j / 2 - 1)) 30)
theorem qpow_lt {a b : Nat} (h : a < b) : qOf false (2 ^ a) 30 < qOf false (2 ^ b) 30 := by
 have h2 : (2 : Nat) ^ a < 2 ^ b := Nat.pow_lt_pow_right (by decide) h
 show ((2 ^ a : Nat) : Rat) / qp 30 < ((2 ^ b : Nat) : Rat) / qp 30
 have hp := qp_pos 30
 have hc : ((2 ^ a : Nat) : Rat) < ((2 ^ b : Nat) : Rat) := by exact_mod_cast h2
 rw [Rat.div_def, Rat.div_def]
 exact Rat.mul_lt_mul_of_pos_right hc (Rat.inv_pos.2 hp)
theorem paD_end_mem {x : DV} (hl : len x.m ≤ 1000) (h1 : (paD x).q ≤ qOf false (2 ^ 70) 30) (h2 : -(qOf false (2 ^ 70) 30) ≤ (paD x).q) : (∃ j, j < 143 ∧ (paD x).q = endP j) ∧ ∃ j, j < 143 ∧ -(paD x).q = endP j := by
 have key : ∀ s : Nat, qOf false (2 ^ s) 30 ≤ qOf false (2 ^ 70) 30 → s ≤ 70 := fun s h => by
  rcases Nat.lt_or_ge 70 s with q | q
  ·have := qpow_lt q; exact absurd h (by grind)
  ·exact q
 have pos : ∀ s : Nat, s ≤ 70 → (∃ j, j < 143 ∧ qOf false (2 ^ s) 30 = endP j) ∧ ∃ j, j < 143 ∧ -(qOf false (2 ^ s) 30) = endP j := fun s hs => by
  refine ⟨⟨2 * s + 1, by omega, ?_⟩, 2 * s + 2, by omega, ?_⟩
  ·unfold endP; rw [if_neg (by omega), if_pos (by omega), show (2 * s + 1) / 2 = s by omega]
  ·unfold endP; rw [if_neg (by omega), if_neg (by omega), show (2 * s + 2) / 2 - 1 = s by omega]
 rcases paD_mem hl with h | ⟨s, h | h⟩
 ·rw [h]; exact ⟨⟨0, by omega, rfl⟩, 0, by omega, by unfold endP; rw [if_pos rfl]; grind⟩
 ·rw [h] at h1 ⊢; exact pos s (key s h1)
 ·rw [h] at h2 ⊢
  have hs := key s (by grind)
  refine ⟨(pos s hs).2, ?_⟩
  have : - -(qOf false (2 ^ s) 30) = qOf false (2 ^ s) 30 := by grind
  rw [this]; exact (pos s hs).1
theorem cmp0 {a b : DV} (ha : a.ok) (hb : b.ok) : cmpD a b = 0 ↔ a.q = b.q := by
 have h1 := cmp_le ha hb; have h2 := cmp_le hb ha
 have h3 := cmpD_sgn ha hb; have h4 := cmpD_sgn hb ha
 constructor
 ·intro h
  have a1 := h1.1 (by omega)
  rw [h] at h3
  have : ¬ (a.q - b.q < 0) := fun z => by unfold sgn at h3; rw [if_pos z] at h3; exact absurd h3 (by decide)
  grind
 ·intro h
  rw [h3, h]
  have : b.q - b.q = 0 := by grind
  rw [this]; decide
theorem ceil_ge {x : DV} (ok : x.ok) (k : Nat) (hk : k ≤ 65536) : x.q ≤ (ceilD x k).q := by
 have f2 := (floor_q (negD_ok x) k hk).1
 have e3 : (ceilD x k).q = -(floorD (negD x) k).q := q_negD (floorD_ok (negD_ok _) k)
 have e4 : (negD x).q = -x.q := q_negD ok
 grind
theorem fo_le {o x : IV} (hx : x.lo.ok ∧ x.hi.ok) (hl : len x.lo.m ≤ 999 ∧ len x.hi.m ≤ 999) : (foI o x).lo.q ≤ x.lo.q ∧ x.hi.q ≤ (foI o x).hi.q := by
 unfold foI foL foH
 simp only
 constructor
 ·split
  ·exact Rat.le_refl
  ·have e1 := lim_neg x.lo
   have g := paD_ge (negD_ok x.lo) (by omega : len (negD x.lo).m ≤ 1000)
   have e2 : (negD x.lo).q = -x.lo.q := q_negD hx.1
   have e3 : (negD (paD (negD x.lo))).q = -(paD (negD x.lo)).q := q_negD (paD_end (by omega)).1
   grind
 ·split
  ·exact Rat.le_refl
  ·exact paD_ge hx.2 (by omega)
theorem fo_gd {o x : IV} (hx : GdI x) (hl : len x.lo.m ≤ 999 ∧ len x.hi.m ≤ 999) : GdI (foI o x) := by
 have h := fo_le (o := o) ⟨hx.1.1, hx.2.1.1⟩ hl
 refine ⟨?_, ?_, Rat.le_trans h.1 (Rat.le_trans hx.2.2 h.2)⟩
 ·show End (foL o x)
  unfold foL; split
  ·exact hx.1
  ·have e1 := lim_neg x.lo
   exact end_neg (paD_end (by omega))
 ·show End (foH o x)
  unfold foH; split
  ·exact hx.2.1
  ·exact paD_end (by omega)
theorem tkI_gd {D : Dia} (ok : OkD D) {S : Nat → IV} {n : Nat} {b : Nat → Bool} (hz : evE D n b S = 0) (hS : ∀ k, k < n → GdI (S k)) : ∀ i, i < D.nb → GdI (tkI D S i) := by
 obtain ⟨hn, _, hl⟩ := evE_good hz
 have hdel : ∀ i, i < D.nb → isD D i = true → GdI (tkI D S i) := fun i hi h => by
  rw [tkI_del S h]; exact hS _ (by rw [hn]; exact (plc_lt hi h).1)
 have key : ∀ k, k ≤ (ordL D).length → ∀ m, m < k → GdI (tkI D S ((ordL D).getD m 0)) := by
  intro k
  induction k with
  | zero => intro _ m hm; omega
  | succ k ih =>
   intro hk m hm
   by_cases e : m = k
   ·subst e
    have hr := ord_rdy (D := D) (k := m) (by omega)
    obtain ⟨_, q1, q2⟩ := rdy_iff.1 hr.2.1
    rw [tkI_eq ok S hr.1 q1]
    refine bvI_gd ok hr.1 fun j hj => ?_
    have hs := ok.src hr.1 hj
    refine GdI.sh ?_ (hl _ hs.2.1)
    rcases q2 j hj with q | q
    ·obtain ⟨t, ht, htl, et⟩ := inL_take.1 q
     have := ih (by omega) t ht
     rwa [et] at this
    ·exact hdel _ hs.2.1 q
   ·exact ih (by omega) m (by omega)
 intro i hi
 cases h : isD D i with
 | true => exact hdel i hi h
 | false =>
  obtain ⟨t, h1, _, h3, _⟩ := posP_yes ok hi h
  have := key (ordL D).length (Nat.le_refl _) t h1
  rwa [h3] at this
theorem nx_gd {D : Dia} (ok : OkD D) {S : Nat → IV} {n : Nat} {b : Nat → Bool} (hz : evE D n b S = 0) (hS : ∀ k, k < n → GdI (S k)) {i : Nat} (hi : i < n) :
  GdI (nxI D S i) ∧ (len (nxI D S i).lo.m ≤ 999 ∧ len (nxI D S i).hi.m ≤ 999) ∧ (nxI D S i).lo.q ≤ (S i).lo.q ∧ (S i).hi.q ≤ (nxI D S i).hi.q := by
 obtain ⟨hn, _, hl⟩ := evE_good hz
 have ht := tkI_gd ok hz hS
 have hs := sdI_lt ok (k := i) (by omega)
 have s1 := (hS i hi).sh (ev_short hz hi)
 have s2 := (ht _ hs).sh (hl _ hs)
 have hu := hul_sh s1 s2
 refine ⟨rd_gd hu, nx_len ok hS ht hz hi, ?_, ?_⟩
 ·have f := (floor_q hu.1.ok 64 (by decide)).1
  have e : (hulI (S i) (tkI D S (sdI D i))).lo.q ≤ (S i).lo.q := by
   show (lo4 _ _ _ _).q ≤ _
   rw [q_lo4 s1.1.ok s1.2.1.ok s2.1.ok s2.2.1.ok]; unfold mnQ; grind
  exact Rat.le_trans f e
 ·have f := ceil_ge hu.2.1.ok 64 (by decide)
  have e : (S i).hi.q ≤ (hulI (S i) (tkI D S (sdI D i))).hi.q := by
   show _ ≤ (hi4 _ _ _ _).q
   rw [q_hi4 s1.1.ok s1.2.1.ok s2.1.ok s2.2.1.ok]; unfold mxQ; grind
  exact Rat.le_trans e f
theorem it_gd {D : Dia} (ok : OkD D) (r : Nat) : ∀ k, (∀ j, j < k → goK D r j) → ∀ i, i < (delL D).length → GdI (itI D r k i)
 | 0, _, i, hi => by
  have hx := (del_at (D := D) (k := i) hi).1
  have h := (ok.shr hx).1.end_
  exact ⟨h, h, Rat.le_refl⟩
 | k + 1, h, i, hi => by
  have ih := it_gd ok r k fun j hj => h j (by omega)
  have hg := (h k (by omega)).2.1
  unfold evK at hg
  have hn := nx_gd ok hg ih hi
  show GdI (if r ≤ k then _ else _)
  split
  ·exact fo_gd hn.1 hn.2.1
  ·exact hn.1
theorem any_no {n : Nat} {q : Nat → Bool} (h : anyN n q = false) {i : Nat} (hi : i < n) : q i = false := by
 cases e : q i with
 | false => rfl
 | true =>
  have hh := anyN_all n (fun j => !q j)
  have he : (fun i => !(fun j => !q j) i) = q := by funext j; simp
  rw [he, h] at hh
  have := allN_iff.1 hh i hi
  rw [e] at this; cases this
theorem ub_bd {x : IV} (h1 : x.lo.ok) (h2 : x.hi.ok) (h : ubI x = false) : (x.hi.q ≤ qOf false (2 ^ 70) 30 ∧ -(qOf false (2 ^ 70) 30) ≤ x.hi.q) ∧ x.lo.q ≤ qOf false (2 ^ 70) 30 ∧ -(qOf false (2 ^ 70) 30) ≤ x.lo.q := by
 have hp := pw_q (e := 40) (by omega) (by omega)
 have h' := of_decide_eq_false h
 have hm := (cmp_le (maxD_ok (absD_ok x.lo) (absD_ok x.hi)) (pwD_len 40).1).1 (by omega)
 rw [q_max (absD_ok _) (absD_ok _), q_absD h1, q_absD h2, hp, show ((40 : Int) + 30).toNat = 70 by decide] at hm
 generalize qOf false (2 ^ 70) 30 = Z at *
 unfold mxQ at hm
 grind
theorem least_not {p : Nat → Prop} : ∀ N, (¬ ∀ k, k ≤ N → p k) → ∃ K, K ≤ N ∧ (∀ k, k < K → p k) ∧ ¬ p K
 | 0, h => ⟨0, Nat.le_refl _, fun k hk => absurd hk (by omega), fun q => h (fun k hk => by
   have e : k = 0 := by omega
   rw [e]; exact q)⟩
 | N + 1, h => by
  by_cases q : ∀ k, k ≤ N → p k
  ·refine ⟨N + 1, Nat.le_refl _, fun k hk => q k (by omega), fun z => h fun k hk => ?_⟩
   by_cases e : k = N + 1
   ·rw [e]; exact z
   ·exact q k (by omega)
  ·obtain ⟨K, h1, h2, h3⟩ := least_not N q
   exact ⟨K, by omega, h2, h3⟩
theorem fo_step {o x : IV} (go : GdI o) (gx : GdI x) (hl : len x.lo.m ≤ 999 ∧ len x.hi.m ≤ 999) (l1 : x.lo.q ≤ o.lo.q) (l2 : o.hi.q ≤ x.hi.q)
  (hb : ((foI o x).hi.q ≤ qOf false (2 ^ 70) 30 ∧ -(qOf false (2 ^ 70) 30) ≤ (foI o x).hi.q) ∧ (foI o x).lo.q ≤ qOf false (2 ^ 70) 30 ∧ -(qOf false (2 ^ 70) 30) ≤ (foI o x).lo.q) :
  (o.hi.q ≤ (foI o x).hi.q ∧ (foI o x).lo.q ≤ o.lo.q) ∧ ((foI o x).hi.q ≠ o.hi.q → ∃ j, j < 143 ∧ (foI o x).hi.q = endP j) ∧ ((foI o x).lo.q ≠ o.lo.q → ∃ j, j < 143 ∧ (foI o x).lo.q = endP j) ∧
  (smI o x = false → (foI o x).hi.q ≠ o.hi.q ∨ (foI o x).lo.q ≠ o.lo.q) := by
 have f := fo_le (o := o) ⟨gx.1.1, gx.2.1.1⟩ hl
 have eh : (foI o x).hi = foH o x := rfl
 have el : (foI o x).lo = foL o x := rfl
 rw [eh, el] at hb f ⊢
 refine ⟨⟨Rat.le_trans l2 f.2, Rat.le_trans f.1 l1⟩, fun hne => ?_, fun hne => ?_, fun hq => ?_⟩
 ·have hc : ¬ cmpD x.hi o.hi = 0 := fun z => by
   refine hne ?_
   unfold foH; rw [if_pos z]; exact (cmp0 gx.2.1.1 go.2.1.1).1 z
  have e : foH o x = paD x.hi := by unfold foH; rw [if_neg hc]
  rw [e] at hb ⊢
  exact (paD_end_mem (by have := hl.2; omega) hb.1.1 hb.1.2).1
 ·have hc : ¬ cmpD x.lo o.lo = 0 := fun z => by
   refine hne ?_
   unfold foL; rw [if_pos z]; exact (cmp0 gx.1.1 go.1.1).1 z
  have e : foL o x = negD (paD (negD x.lo)) := by unfold foL; rw [if_neg hc]
  have e1 := lim_neg x.lo
  have hl' : len (negD x.lo).m ≤ 1000 := by have := hl.1; omega
  have e3 : (negD (paD (negD x.lo))).q = -(paD (negD x.lo)).q := q_negD (paD_end hl').1
  rw [e, e3] at hb
  rw [e, e3]
  have b1 := hb.2.1; have b2 := hb.2.2
  exact (paD_end_mem hl' (by grind) (by grind)).2
 ·unfold smI at hq
  rw [Bool.and_eq_false_iff, decide_eq_false_iff_not, decide_eq_false_iff_not, cmp0 go.1.1 gx.1.1, cmp0 go.2.1.1 gx.2.1.1] at hq
  have f1 := f.1; have f2 := f.2
  rcases hq with hq | hq
  ·right; intro z; apply hq; grind
  ·left; intro z; apply hq; grind
theorem infer_ends {D : Dia} (ok : OkD D) (r : Nat) (hr : r ≤ 16) : ∃ K, K ≤ 20000 ∧ (∀ k, k < K → goK D r k) ∧ ¬ goK D r K := by
 refine least_not 20000 fun hall => ?_
 obtain ⟨n, hn⟩ : ∃ n, (delL D).length = n := ⟨_, rfl⟩
 have hnb : n ≤ 64 := by have := del_le D; have := ok.nb; omega
 have gd : ∀ k, k ≤ 20001 → ∀ i, i < n → GdI (itI D r k i) := fun k hk i hi => it_gd ok r k (fun j hj => hall j (by omega)) i (by omega)
 have nx : ∀ k, k ≤ 20000 → ∀ i, i < n → GdI (nxI D (itI D r k) i) ∧ (len (nxI D (itI D r k) i).lo.m ≤ 999 ∧ len (nxI D (itI D r k) i).hi.m ≤ 999) ∧ (nxI D (itI D r k) i).lo.q ≤ (itI D r k i).lo.q ∧ (itI D r k i).hi.q ≤ (nxI D (itI D r k) i).hi.q := fun k hk i hi => by
  have hg := (hall k hk).2.1
  unfold evK at hg; rw [hn] at hg
  exact nx_gd ok hg (gd k (by omega)) hi
 have it : ∀ k, r ≤ k → ∀ i, itI D r (k + 1) i = foI (itI D r k i) (nxI D (itI D r k) i) := fun k h i => by
  show (if r ≤ k then _ else _) = _; rw [if_pos h]
 have st : ∀ k, r ≤ k → k < 20000 → ∀ i, i < n → ((itI D r k i).hi.q ≤ (itI D r (k + 1) i).hi.q ∧ (itI D r (k + 1) i).lo.q ≤ (itI D r k i).lo.q) ∧ ((itI D r (k + 1) i).hi.q ≠ (itI D r k i).hi.q → ∃ j, j < 143 ∧ (itI D r (k + 1) i).hi.q = endP j) ∧
   ((itI D r (k + 1) i).lo.q ≠ (itI D r k i).lo.q → ∃ j, j < 143 ∧ (itI D r (k + 1) i).lo.q = endP j) ∧ (smI (itI D r k i) (nxI D (itI D r k) i) = false → (itI D r (k + 1) i).hi.q ≠ (itI D r k i).hi.q ∨ (itI D r (k + 1) i).lo.q ≠ (itI D r k i).lo.q) := fun k hk hN i hi => by
  have a := nx k (by omega) i hi
  have g := gd k (by omega) i hi
  have b : ((itI D r (k + 1) i).hi.q ≤ qOf false (2 ^ 70) 30 ∧ -(qOf false (2 ^ 70) 30) ≤ (itI D r (k + 1) i).hi.q) ∧ (itI D r (k + 1) i).lo.q ≤ qOf false (2 ^ 70) 30 ∧ -(qOf false (2 ^ 70) 30) ≤ (itI D r (k + 1) i).lo.q := by
   have hu := (hall (k + 1) (by omega)).1
   unfold ubK at hu
   have g := gd (k + 1) (by omega) i hi
   exact ub_bd g.1.1 g.2.1.1 (any_no hu (by omega))
  rw [it k hk i] at b ⊢
  exact fo_step g a.1 a.2.1 a.2.2.1 a.2.2.2 b
 have fin := seq_ends (P := endP) (m := 143) (n := n) (r := r) (N := 20000) (H := fun k i => (itI D r k i).hi.q) (L := fun k i => (itI D r k i).lo.q)
  (fun k hk hN i hi => (st k hk hN i hi).1) (fun k hk hN i hi => ⟨(st k hk hN i hi).2.1, (st k hk hN i hi).2.2.1⟩)
  (fun k hk hN => by
   have hs := (hall k (by omega)).2.2
   unfold smK at hs
   obtain ⟨i, hi, hq⟩ := allN_false.1 hs
   rw [hn] at hi
   exact ⟨i, hi, (st k hk hN i hi).2.2.2 hq⟩)
 have : n * (143 + 143) ≤ 64 * 286 := Nat.mul_le_mul_right _ hnb
 omega
end
section
open Go.RowKit
theorem it_grow {D : Dia} (ok : OkD D) (r : Nat) : ∀ k, (∀ j, j < k → goK D r j) → ∀ i, i < (delL D).length → (itI D r k i).lo.q ≤ (s0S D i).q ∧ (s0S D i).q ≤ (itI D r k i).hi.q
 | 0, _, _, _ => ⟨Rat.le_refl, Rat.le_refl⟩
 | k + 1, h, i, hi => by
  have ih := it_grow ok r k (fun j hj => h j (by omega)) i hi
  have gd := it_gd ok r k (fun j hj => h j (by omega))
  have hg := (h k (by omega)).2.1
  unfold evK at hg
  have hn := nx_gd ok hg gd hi
  have a := hn.2.2.1; have b := hn.2.2.2
  show (if r ≤ k then foI (itI D r k i) (nxI D (itI D r k) i) else nxI D (itI D r k) i).lo.q ≤ _ ∧ _ ≤ (if r ≤ k then foI (itI D r k i) (nxI D (itI D r k) i) else nxI D (itI D r k) i).hi.q
  by_cases q : r ≤ k
  ·rw [if_pos q]
   have f := fo_le (o := itI D r k i) ⟨hn.1.1.1, hn.1.2.1.1⟩ hn.2.1
   exact ⟨Rat.le_trans f.1 (Rat.le_trans a ih.1), Rat.le_trans (Rat.le_trans ih.2 b) f.2⟩
  ·rw [if_neg q]
   exact ⟨Rat.le_trans a ih.1, Rat.le_trans ih.2 b⟩
theorem con_of' {a b x : DV} (h1 : a.ok) (h2 : b.ok) (h3 : x.ok) (h : a.q ≤ x.q ∧ x.q ≤ b.q) : conB a b x = true := by
 unfold conB; rw [Bool.and_eq_true, decide_eq_true_eq, decide_eq_true_eq, cmp_le h1 h3, cmp_le h3 h2]; exact h
theorem closed_at {D : Dia} (ok : OkD D) {r K : Nat} (hgo : ∀ j, j < K → goK D r j) (hev : evK D r K = 0) (hsm : smK D r K = true) : clB D (delL D).length (itI D r K) = true := by
 have gd := it_gd ok r K hgo
 have gr := it_grow ok r K hgo
 have hz : evE D (delL D).length (fun _ => true) (itI D r K) = 0 := hev
 obtain ⟨_, _, hl⟩ := evE_good hz
 have ht := tkI_gd ok hz gd
 refine allN_iff.2 fun k hk => ?_
 have g := gd k hk
 have hs := sdI_lt ok (k := k) hk
 have s1 := g.sh (ev_short hz hk)
 have s2 := (ht _ hs).sh (hl _ hs)
 have n := nx_gd ok hz gd hk
 have hsk := allN_iff.1 hsm k hk
 unfold smI at hsk
 rw [Bool.and_eq_true, decide_eq_true_eq, decide_eq_true_eq, cmp0 g.1.1 n.1.1.1, cmp0 g.2.1.1 n.1.2.1.1] at hsk
 have hu := hul_sh s1 s2
 have f1 := (floor_q hu.1.ok 64 (by decide)).1
 have f2 := ceil_ge hu.2.1.ok 64 (by decide)
 have e1 : (hulI (itI D r K k) (tkI D (itI D r K) (sdI D k))).lo.q ≤ (tkI D (itI D r K) (sdI D k)).lo.q := by
  show (lo4 _ _ _ _).q ≤ _
  rw [q_lo4 s1.1.ok s1.2.1.ok s2.1.ok s2.2.1.ok]; unfold mnQ; grind
 have e2 : (tkI D (itI D r K) (sdI D k)).hi.q ≤ (hulI (itI D r K k) (tkI D (itI D r K) (sdI D k))).hi.q := by
  show _ ≤ (hi4 _ _ _ _).q
  rw [q_hi4 s1.1.ok s1.2.1.ok s2.1.ok s2.2.1.ok]; unfold mxQ; grind
 have l1 : (itI D r K k).lo.q ≤ (tkI D (itI D r K) (sdI D k)).lo.q := by rw [hsk.1]; exact Rat.le_trans f1 e1
 have l2 : (tkI D (itI D r K) (sdI D k)).hi.q ≤ (itI D r K k).hi.q := by rw [hsk.2]; exact Rat.le_trans e2 f2
 have le := s2.2.2
 have s0 : (s0S D k).ok := nmS_ok _ _
 unfold clK insB
 rw [con_of' g.1.1 g.2.1.1 s0 (gr k hk), con_of' g.1.1 g.2.1.1 s2.1.ok ⟨l1, Rat.le_trans le l2⟩, con_of' g.1.1 g.2.1.1 s2.2.1.ok ⟨Rat.le_trans l1 le, l2⟩]; rfl
theorem evK_err {D : Dia} {r K : Nat} (h : evK D r K ≠ 0) : evK D r K = 4 := by
 unfold evK evE at h ⊢
 rw [if_neg (by omega), if_neg (by rw [allN_true]; decide)] at h ⊢
 split
 ·rfl
 ·rename_i q; rw [if_neg q] at h; exact absurd rfl h
end
section
open Go Go.RowKit
attribute [local go_sem ↓] Go.wp_at_zero Go.wp_at_succ
set_option maxRecDepth 100000 in
set_option maxHeartbeats 4000000 in
theorem hold_any {w : World} {D : Dia} {p : Pl} (d : Dm w D p) (hT : Tabs w) (a : Int) (ha : 0 ≤ a ∧ a ≤ 255) :
  Calls Tryz.prog 4 #[dgv D p, .int .u8 a] w fun e w' => e = .returned (.bool true) ∧ Ext w w' := by
 obtain ⟨W1, hW1⟩ : ∃ W1, W1 = w.alloc (.cells #[.slice p.AI D.ni p.cI, .slice p.AB D.nb p.cB, .slice p.AO D.no p.cO] 26) := ⟨_, rfl⟩
 have hE : Ext w W1 := by rw [hW1]; exact Ext.alloc _ _
 have hbd : Bd W1 w.heap.size D p := by rw [hW1]; exact Bd.new _ _ _ _
 have HBX : Hid (∀ w', Ext W1 w' → w'.cell? ⟨w.heap.size, 0, none⟩ = some (.slice p.AI D.ni p.cI) ∧ w'.cell? ⟨w.heap.size, 1, none⟩ = some (.slice p.AB D.nb p.cB) ∧ w'.cell? ⟨w.heap.size, 2, none⟩ = some (.slice p.AO D.no p.cO)) := fun w' e => by
  have a := hbd.ext e; exact ⟨a.c0, a.c1, a.c2⟩
 have HA : Hid (∀ w', Ext W1 w' → Calls Tryz.prog 11 #[] w' fun e w'' => e = .returned (.bool true) ∧ Ext w' w'') := fun w' x => rgAwake_any w' (hT.ext (hE.trans x))
 have HLI : Hid (∀ w', Ext W1 w' → Calls Tryz.prog 12 #[dgv D p] w' fun e w'' => e = .returned (.bool (litB D)) ∧ Ext w' w'') := fun w' e => light_any (d.ext (hE.trans e))
 have HCK : Hid (∀ w', Ext W1 w' → Calls Tryz.prog 21 #[dgv D p] w' fun e w'' => e = .returned (errv (chk D)) ∧ Ext w' w'') := fun w' x => check_any (d.ext (hE.trans x)) (hT.ext (hE.trans x))
 have HE := Lib.hid hE
 obtain ⟨c0, c1, c2⟩ := HBX.out _ (Ext.refl _)
 cases hl : litB D with
 | false =>
  rw [hl] at HLI
  clear d hT hE hl HCK ha
  go_enter Tryz.func4, Tryz.ntmps4
  go_upto_region 1 with fail
  rw [← hW1]; clear hW1
  go_wp2_with (first
   | (go_at_call 11; (with_reducible refine (HA.out _ ex2).mono ?_); rintro e1 w1 ⟨rfl, h1⟩; (try clear c0 c1 c2); obtain ⟨c0, c1, c2⟩ := HBX.out w1 ex2)
   | (go_at_call 12; (with_reducible refine (HLI.out _ ex2).mono ?_); rintro e1 w2 ⟨rfl, h2⟩; (try clear c0 c1 c2); obtain ⟨c0, c1, c2⟩ := HBX.out w2 ex2))
  go_ret
  exact ⟨rfl, HE.out.trans ex2⟩
 | true =>
 rw [hl] at HLI
 by_cases hk : chk D = 0
 case neg =>
  rw [errv_n hk] at HCK
  clear d hT hE hl hk ha
  generalize chk D = k at *
  go_enter Tryz.func4, Tryz.ntmps4
  go_upto_region 1 with fail
  rw [← hW1]; clear hW1
  go_wp2_with (first
   | (go_at_call 11; (with_reducible refine (HA.out _ ex2).mono ?_); rintro e1 w1 ⟨rfl, h1⟩; (try clear c0 c1 c2); obtain ⟨c0, c1, c2⟩ := HBX.out w1 ex2)
   | (go_at_call 12; (with_reducible refine (HLI.out _ ex2).mono ?_); rintro e1 w2 ⟨rfl, h2⟩; (try clear c0 c1 c2); obtain ⟨c0, c1, c2⟩ := HBX.out w2 ex2)
   | (go_at_call 21; (with_reducible refine (HCK.out _ ex2).mono ?_); rintro e1 w3 ⟨rfl, h3⟩; (try clear c0 c1 c2); obtain ⟨c0, c1, c2⟩ := HBX.out w3 ex2))
  go_ret
  exact ⟨rfl, HE.out.trans ex2⟩
 case pos =>
  have ok := chk_ok hk
  rw [hk, errv_z] at HCK
  obtain ⟨r, hr⟩ : ∃ r : Nat, 1 + a % 16 = (r : Int) := ⟨(1 + a % 16).toNat, by omega⟩
  have hr1 : 1 ≤ r := by omega
  have hr2 : r ≤ 16 := by omega
  obtain ⟨K, hK, hgo, hst⟩ := infer_ends ok r hr2
  have HIF : Hid (∀ w', Ext W1 w' → Calls Tryz.prog 22 #[dgv D p, I r] w' (InR D r K w')) := fun w' x => Infer_run (d.ext (hE.trans x)) (hT.ext (hE.trans x)) hk r hr1 hr2 K (by omega) hgo hst
  have hm : a.tmod 16 = a % 16 := Int.tmod_eq_emod_of_nonneg ha.1
  have hw : wrap64 (1 + wrap64 (a.tmod 16)) = (r : Int) := by rw [hm]; unfold wrap64; omega
  clear hm
  have HW := Lib.hid hw
  clear hw
  by_cases hub : ubK D r K = true
  ·have HI2 : Hid (∀ w', Ext W1 w' → Calls Tryz.prog 22 #[dgv D p, I r] w' fun e w'' => e = .returned (.tuple #[.slice none 0 0, .iface 48 (I 22)]) ∧ Ext w' w'') := fun w' x => (HIF.out w' x).mono fun e w'' hh => by
    obtain ⟨hh, hx⟩ := hh
    rcases hh with ⟨_, q⟩ | ⟨q, _⟩ | ⟨q, _⟩
    ·exact ⟨q, hx⟩
    ·rw [hub] at q; cases q
    ·rw [hub] at q; cases q
   have HIS : Hid (∀ w, Calls Tryz.prog 23 #[.iface 48 (I 22), I 22] w fun e w' => e = .returned (.bool true) ∧ Ext w w') := fun w => by
    have := is_err 22 22 w; rwa [decide_eq_true rfl] at this
   clear d hT hE hl hk ok hgo hst HIF hub hK ha
   go_enter Tryz.func4, Tryz.ntmps4
   go_upto_region 1 with fail
   rw [← hW1]; clear hW1
   go_wp2_with (first
    | (go_at_call 11; (with_reducible refine (HA.out _ ex2).mono ?_); rintro e1 w1 ⟨rfl, h1⟩; (try clear c0 c1 c2); obtain ⟨c0, c1, c2⟩ := HBX.out w1 ex2)
    | (go_at_call 12; (with_reducible refine (HLI.out _ ex2).mono ?_); rintro e1 w2 ⟨rfl, h2⟩; (try clear c0 c1 c2); obtain ⟨c0, c1, c2⟩ := HBX.out w2 ex2)
    | (go_at_call 21; (with_reducible refine (HCK.out _ ex2).mono ?_); rintro e1 w3 ⟨rfl, h3⟩; (try clear c0 c1 c2); obtain ⟨c0, c1, c2⟩ := HBX.out w3 ex2)
    | (go_at_call 22; rw [HW.out]; (with_reducible refine (HI2.out _ ex2).mono ?_); rintro e1 w4 ⟨rfl, h4⟩; (try clear c0 c1 c2); obtain ⟨c0, c1, c2⟩ := HBX.out w4 ex2)
    | (go_at_call 23; (with_reducible refine (HIS.out _).mono ?_); rintro e1 w5 ⟨rfl, h5⟩))
   go_ret
   exact ⟨rfl, HE.out.trans ex2⟩
  by_cases hev : evK D r K = 0
  case neg =>
   have h4 := evK_err hev
   have HI2 : Hid (∀ w', Ext W1 w' → Calls Tryz.prog 22 #[dgv D p, I r] w' fun e w'' => e = .returned (.tuple #[.slice none 0 0, .iface 48 (I 4)]) ∧ Ext w' w'') := fun w' x => (HIF.out w' x).mono fun e w'' hh => by
    obtain ⟨hh, hx⟩ := hh
    rcases hh with ⟨q, _⟩ | ⟨_, _, q⟩ | ⟨_, q, _⟩
    ·exact absurd q hub
    ·rw [h4] at q; exact ⟨q, hx⟩
    ·exact absurd q hev
   have HIS : Hid (∀ w, Calls Tryz.prog 23 #[.iface 48 (I 4), I 4] w fun e w' => e = .returned (.bool true) ∧ Ext w w') := fun w => by
    have := is_err 4 4 w; rwa [decide_eq_true rfl] at this
   have HIN : Hid (∀ w, Calls Tryz.prog 23 #[.iface 48 (I 4), I 22] w fun e w' => e = .returned (.bool false) ∧ Ext w w') := fun w => by
    have := is_err 4 22 w; rwa [decide_eq_false (by decide)] at this
   clear d hT hE hl hk ok hgo hst HIF hub hK ha hev h4
   go_enter Tryz.func4, Tryz.ntmps4
   go_upto_region 1 with fail
   rw [← hW1]; clear hW1
   go_wp2_with (first
    | (go_at_call 11; (with_reducible refine (HA.out _ ex2).mono ?_); rintro e1 w1 ⟨rfl, h1⟩; (try clear c0 c1 c2); obtain ⟨c0, c1, c2⟩ := HBX.out w1 ex2)
    | (go_at_call 12; (with_reducible refine (HLI.out _ ex2).mono ?_); rintro e1 w2 ⟨rfl, h2⟩; (try clear c0 c1 c2); obtain ⟨c0, c1, c2⟩ := HBX.out w2 ex2)
    | (go_at_call 21; (with_reducible refine (HCK.out _ ex2).mono ?_); rintro e1 w3 ⟨rfl, h3⟩; (try clear c0 c1 c2); obtain ⟨c0, c1, c2⟩ := HBX.out w3 ex2)
    | (go_at_call 22; rw [HW.out]; (with_reducible refine (HI2.out _ ex2).mono ?_); rintro e1 w4 ⟨rfl, h4⟩; (try clear c0 c1 c2); obtain ⟨c0, c1, c2⟩ := HBX.out w4 ex2)
    | (go_at_call 23; (with_reducible refine (HIS.out _).mono ?_); rintro e1 w5 ⟨rfl, h5⟩)
    | (go_at_call 23; (with_reducible refine (HIN.out _).mono ?_); rintro e1 w6 ⟨rfl, h6⟩))
   go_ret
   exact ⟨rfl, HE.out.trans ex2⟩
  case pos =>
   have hsm : smK D r K = true := by
    cases q : smK D r K with
    | true => rfl
    | false => exact absurd ⟨by simpa using hub, hev, q⟩ hst
   have hcl := closed_at ok hgo hev hsm
   have HI2 : Hid (∀ w', Ext W1 w' → Calls Tryz.prog 22 #[dgv D p, I r] w' fun e w'' => ∃ A c R, e = .returned (.tuple #[.slice A (delL D).length c, .nilIface]) ∧ LnI w'' A (delL D).length R (itI D r K) ∧ Ext w' w'') := fun w' x => (HIF.out w' x).mono fun e w'' hh => by
    obtain ⟨hh, hx⟩ := hh
    rcases hh with ⟨q, _⟩ | ⟨_, q, _⟩ | ⟨_, _, _, A, c, R, h1, h2⟩
    ·exact absurd q hub
    ·exact absurd hev q
    ·exact ⟨A, c, R, h1, h2, hx⟩
   have HCL : Hid (∀ w' A c R, Ext W1 w' → LnI w' A (delL D).length R (itI D r K) → Calls Tryz.prog 15 #[dgv D p, .slice A (delL D).length c] w' fun e w'' => e = .returned (.tuple #[.bool true, .nilIface]) ∧ Ext w' w'') := fun w' A c R x l => by
    have := Closed_ok (ci := c) (d.ext (hE.trans x)) (hT.ext (hE.trans x)) hk l.rn (fun k hk => ElI.of (l.el k hk)) (show evE D (delL D).length (fun _ => true) (itI D r K) = 0 from hev)
    rw [hcl] at this; exact this
   clear d hT hE hl hk ok hgo hst HIF hub hK ha hev hsm hcl
   generalize (delL D).length = n at *
   generalize itI D r K = V at *
   go_enter Tryz.func4, Tryz.ntmps4
   go_upto_region 1 with fail
   rw [← hW1]; clear hW1
   go_wp2_with (first
    | (go_at_call 11; (with_reducible refine (HA.out _ ex2).mono ?_); rintro e1 w1 ⟨rfl, h1⟩; (try clear c0 c1 c2); obtain ⟨c0, c1, c2⟩ := HBX.out w1 ex2)
    | (go_at_call 12; (with_reducible refine (HLI.out _ ex2).mono ?_); rintro e1 w2 ⟨rfl, h2⟩; (try clear c0 c1 c2); obtain ⟨c0, c1, c2⟩ := HBX.out w2 ex2)
    | (go_at_call 21; (with_reducible refine (HCK.out _ ex2).mono ?_); rintro e1 w3 ⟨rfl, h3⟩; (try clear c0 c1 c2); obtain ⟨c0, c1, c2⟩ := HBX.out w3 ex2)
    | (go_at_call 22; rw [HW.out]; (with_reducible refine (HI2.out _ ex2).mono ?_); rintro e1 w4 ⟨A4, k4, R4, rfl, l4, h4⟩; have L4 := Lib.hid l4; clear l4; (try clear c0 c1 c2); obtain ⟨c0, c1, c2⟩ := HBX.out w4 ex2)
    | (go_at_call 15; (with_reducible refine (HCL.out _ _ _ _ ex2 (L4.out.ext ex2)).mono ?_); rintro e1 w5 ⟨rfl, h5⟩))
   go_ret
   exact ⟨rfl, HE.out.trans ex2⟩
end
end Go.Proofs.YtgnngldlgcdnfaaGreatDoor
