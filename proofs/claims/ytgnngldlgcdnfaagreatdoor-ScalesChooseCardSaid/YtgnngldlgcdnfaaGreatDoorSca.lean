/- Package scales: the mathematics of scales. -/
import Derived.Test.YtgnngldlgcdnfaaGreatDoorIvmn
import Derived.Test.YtgnngldlgcdnfaaGreatDoorDgab
namespace Go.Proofs.YtgnngldlgcdnfaaGreatDoor
open Go Go.RowKit

/-! ### Scales of a range -/
/-- The magnitude of a range. -/
def mgD (x : IV) : DV := maxD (absD x.lo) (absD x.hi)
/-- Is a magnitude times 2^f at most a limit? -/
def fitB (m : DV) (f lim : Int) : Bool := decide (cmpD (shiftD m f) (ofI lim 0) ≤ 0)
/-- The greatest scale below k that leaves room, or -1. -/
def gsF (m : DV) : Nat → Int
  | 0 => -1
  | k + 1 => if fitB m k 1073741824 = true then (k : Int) else gsF m k
def chS (x : IV) : Int := gsF (mgD x) 31
theorem gsF_bd (m : DV) (k : Nat) : -1 ≤ gsF m k ∧ gsF m k < k ∨ k = 0 ∧ gsF m k = -1 := by
  induction k with
  | zero => exact .inr ⟨rfl, rfl⟩
  | succ k ih =>
    unfold gsF
    split
    · exact .inl ⟨by omega, by omega⟩
    · rcases ih with h | h
      · exact .inl ⟨by omega, by omega⟩
      · exact .inl ⟨by omega, by omega⟩
theorem chS_bd (x : IV) : -1 ≤ chS x ∧ chS x ≤ 30 := by
  have := gsF_bd (mgD x) 31
  unfold chS; omega
theorem gsF_hit {m : DV} {k : Nat} (h : 0 ≤ gsF m k) : fitB m (gsF m k) 1073741824 = true := by
  induction k with
  | zero => unfold gsF at h; omega
  | succ k ih =>
    unfold gsF at h ⊢
    by_cases q : fitB m k 1073741824 = true
    · rw [if_pos q]; exact q
    · rw [if_neg q] at h ⊢; exact ih h
theorem gsF_max {m : DV} {k i : Nat} (hi : i < k) (h : gsF m k < i) : fitB m i 1073741824 = false := by
  induction k with
  | zero => omega
  | succ k ih =>
    unfold gsF at h
    by_cases q : fitB m k 1073741824 = true
    · rw [if_pos q] at h; omega
    · rw [if_neg q] at h
      by_cases e : i = k
      · subst e; simpa using q
      · exact ih (by omega) h

/-! ### As rational numbers -/
theorem qOf_int' (n : Int) (X : Nat) (k : Nat) (hX : n.natAbs = X) : qOf (decide (n < 0)) X k = (n : Rat) / qp k := by
  unfold qOf
  by_cases h : n < 0
  · obtain ⟨m, rfl⟩ : ∃ m : Nat, n = -(m : Int) := ⟨n.natAbs, by omega⟩
    have hm : X = m := by omega
    subst hm
    rw [decide_eq_true h, if_pos rfl]
    have hc : ((X : Int) : Rat) = ((X : Nat) : Rat) := by first | rfl | exact Rat.intCast_natCast X
    rw [Rat.intCast_neg, hc]; grind
  · obtain ⟨m, rfl⟩ : ∃ m : Nat, n = (m : Int) := ⟨n.natAbs, by omega⟩
    have hm : X = m := by omega
    subst hm
    rw [decide_eq_false h]
    have hc : ((X : Int) : Rat) = ((X : Nat) : Rat) := by first | rfl | exact Rat.intCast_natCast X
    rw [hc]; rfl
theorem q_shiftN {d : DV} (h : d.ok) {s : Nat} (hs : s ≤ 60) : (shiftD d s).q = d.q * qp s := by
  have hc : clampN (s : Int) = s := by unfold clampN; omega
  unfold shiftD
  rw [hc, if_neg (by omega), Int.toNat_natCast, q_mkD _ _ h.2.1]
  have e := qOf_mul d.neg false d.m (2 ^ s) d.den 0
  rw [Nat.add_zero] at e
  have e2 : (d.neg != false) = d.neg := by cases d.neg <;> rfl
  rw [e2] at e
  rw [e]
  have e3 : qOf false (2 ^ s) 0 = qp s := by
    unfold qOf; rw [qp_zero]
    show ((2 ^ s : Nat) : Rat) / 1 = _
    have : ((2 ^ s : Nat) : Rat) = qp s := by unfold qp; rfl
    rw [this]; grind
  rw [e3]; rfl
theorem q_ofI' (n : Int) : (ofI n 0).q = (n : Rat) := by
  unfold ofI
  rw [q_mkD _ _ (by omega), qOf_int' n n.natAbs 0 rfl, qp_zero]; grind
theorem fitB_iff {m : DV} (h : m.ok) {f : Nat} (hf : f ≤ 60) (lim : Int) : fitB m f lim = true ↔ m.q * qp f ≤ (lim : Rat) := by
  unfold fitB
  rw [decide_eq_true_eq, cmp_le (shiftD_ok _ _) (ofI_ok _ _), q_shiftN h hf, q_ofI']
theorem qp_succ (k : Nat) : qp (k + 1) = qp k * 2 := by
  rw [qp_add]; have : qp 1 = 2 := by unfold qp; rfl
  rw [this]
theorem fitB_less {m : DV} (h : m.ok) (h0 : 0 ≤ m.q) {f g : Nat} (hf : f ≤ 60) (hg : g ≤ f) {lim : Int} (q : fitB m f lim = true) : fitB m g lim = true := by
  rw [fitB_iff h hf] at q
  rw [fitB_iff h (by omega)]
  refine Rat.le_trans ?_ q
  have e : qp g ≤ qp f := by
    obtain ⟨k, rfl⟩ := Nat.exists_eq_add_of_le hg
    rw [qp_add]
    have h1 : (1 : Rat) ≤ qp k := by
      unfold qp
      have : 1 ≤ 2 ^ k := Nat.one_le_two_pow
      exact_mod_cast this
    have h2 := qp_pos g
    have h3 := Rat.mul_nonneg (Rat.le_of_lt h2) (show 0 ≤ qp k - 1 by grind)
    grind
  have := Rat.mul_nonneg h0 (show 0 ≤ qp f - qp g by grind)
  grind
theorem fitB_wide {m : DV} (h : m.ok) {f : Nat} (hf : f ≤ 60) (q : fitB m f 1073741824 = true) : fitB m f 2147483647 = true := by
  rw [fitB_iff h hf] at q ⊢
  refine Rat.le_trans q ?_
  have : (1073741824 : Int) ≤ 2147483647 := by decide
  exact Rat.intCast_le_intCast.2 this
theorem mgD_ok {x : IV} : (mgD x).ok := maxD_ok (absD_ok _) (absD_ok _)
theorem mgD_q {x : IV} (h1 : x.lo.ok) (h2 : x.hi.ok) : (mgD x).q = mxQ (mxQ x.lo.q (-x.lo.q)) (mxQ x.hi.q (-x.hi.q)) := by
  unfold mgD; rw [q_max (absD_ok _) (absD_ok _), q_absD h1, q_absD h2]
theorem mgD_nn {x : IV} (h1 : x.lo.ok) (h2 : x.hi.ok) : 0 ≤ (mgD x).q := by
  rw [mgD_q h1 h2]; unfold mxQ; grind
theorem chS_fit {x : IV} (h : 0 ≤ chS x) : fitB (mgD x) (chS x) 1073741824 = true := gsF_hit h
theorem chS_max {x : IV} {i : Nat} (hi : i < 31) (h : chS x < i) : fitB (mgD x) i 1073741824 = false := gsF_max hi h
/-- A range that is twice as wide gets one bit less. -/
theorem chS_twice {x y : IV} (h1 : x.lo.ok) (h2 : x.hi.ok) (h3 : y.lo.ok) (h4 : y.hi.ok) (e1 : y.lo.q = 2 * x.lo.q) (e2 : y.hi.q = 2 * x.hi.q) :
    chS y ≤ chS x ∧ chS x - 1 ≤ chS y ∧ (chS x < 30 → 0 ≤ chS x → chS y = chS x - 1) := by
  have hq : (mgD y).q = 2 * (mgD x).q := by
    rw [mgD_q h1 h2, mgD_q h3 h4, e1, e2]; unfold mxQ; grind
  have key : ∀ f : Nat, f ≤ 50 → (fitB (mgD y) f 1073741824 = true ↔ fitB (mgD x) ((f + 1 : Nat) : Int) 1073741824 = true) := fun f hf => by
    rw [fitB_iff mgD_ok (by omega), fitB_iff mgD_ok (by omega), hq, qp_succ]
    have : 2 * (mgD x).q * qp f = (mgD x).q * (qp f * 2) := by grind
    rw [this]
  have nx := mgD_nn h1 h2
  have bx := chS_bd x
  have by' := chS_bd y
  have s1 : chS y ≤ chS x := by
    rcases Int.lt_or_le (chS x) (chS y) with hlt | hge
    · exfalso
      obtain ⟨b, hb⟩ : ∃ b : Nat, chS y = b := ⟨(chS y).toNat, by omega⟩
      have f1 := chS_fit (x := y) (by omega)
      rw [hb] at f1 hlt
      have f2 := (key b (by omega)).1 f1
      have f3 := fitB_less mgD_ok nx (by omega) (Nat.le_succ b) f2
      have f4 := chS_max (x := x) (i := b) (by omega) hlt
      rw [f3] at f4; cases f4
    · exact hge
  have s2 : chS x - 1 ≤ chS y := by
    rcases Int.lt_or_le (chS y) (chS x - 1) with hlt | hge
    · exfalso
      obtain ⟨a, ha⟩ : ∃ a : Nat, chS x = ((a + 1 : Nat) : Int) := ⟨(chS x).toNat - 1, by omega⟩
      have f1 := chS_fit (x := x) (by omega)
      rw [ha] at f1 hlt
      have f2 := (key a (by omega)).2 f1
      have f4 := chS_max (x := y) (i := a) (by omega) (by omega)
      rw [f2] at f4; cases f4
    · exact hge
  refine ⟨s1, s2, fun hl h0 => ?_⟩
  rcases Int.lt_or_le (chS y) (chS x) with hlt | hge
  · omega
  · exfalso
    obtain ⟨b, hb⟩ : ∃ b : Nat, chS y = b := ⟨(chS y).toNat, by omega⟩
    have f1 := chS_fit (x := y) (by omega)
    rw [hb] at f1
    have f2 := (key b (by omega)).1 f1
    have f4 := chS_max (x := x) (i := b + 1) (by omega) (by omega)
    rw [f2] at f4; cases f4

/-! ### Lists of ranges -/
/-- What is wrong with the ranges of a diagram of nb blocks. -/
def rgE (nb n : Nat) (b : Nat → Bool) : Int := if n ≠ nb then 11 else if allN n b = true then 0 else 2
def chE (nb n : Nat) (b : Nat → Bool) (S : Nat → IV) : Int :=
  if rgE nb n b ≠ 0 then rgE nb n b else if allN n (fun i => decide (0 ≤ chS (S i))) = true then 0 else 4
/-- The least of the scales. -/
def leS (S : Nat → IV) : Nat → Int
  | 0 => 30
  | k + 1 => min (leS S k) (chS (S k))
def ftB (S : Nat → IV) (F : Nat → Int) (n : Nat) : Bool := allN n fun i => decide (0 ≤ F i) && (decide (F i ≤ 30) && fitB (mgD (S i)) (F i) 2147483647)
def ftE (nb n : Nat) (b : Nat → Bool) (m : Nat) : Int := if rgE nb n b ≠ 0 then rgE nb n b else if m ≠ nb then 11 else 0
theorem rgE_z {nb n : Nat} {b : Nat → Bool} (h : rgE nb n b = 0) : n = nb ∧ ∀ i, i < n → b i = true := by
  unfold rgE at h
  by_cases q : n ≠ nb
  · rw [if_pos q] at h; omega
  · rw [if_neg q] at h
    by_cases c : allN n b = true
    · exact ⟨by omega, allN_iff.1 c⟩
    · rw [if_neg c] at h; omega
theorem rgE_shape {nb n : Nat} {b : Nat → Bool} (h : n ≠ nb) : rgE nb n b = 11 := by unfold rgE; rw [if_pos h]
theorem rgE_form {nb n : Nat} {b : Nat → Bool} (h : n = nb) {i : Nat} (hi : i < n) (q : b i = false) : rgE nb n b = 2 := by
  unfold rgE; rw [if_neg (by omega), if_neg (by rw [allN_false.2 ⟨i, hi, q⟩]; decide)]
theorem rgE_ok {nb n : Nat} {b : Nat → Bool} (h : n = nb) (q : ∀ i, i < n → b i = true) : rgE nb n b = 0 := by
  unfold rgE; rw [if_neg (by omega), if_pos (allN_iff.2 q)]
theorem chE_z {nb n : Nat} {b : Nat → Bool} {S : Nat → IV} (h : chE nb n b S = 0) : rgE nb n b = 0 ∧ ∀ i, i < n → 0 ≤ chS (S i) := by
  unfold chE at h
  by_cases q : rgE nb n b ≠ 0
  · rw [if_pos q] at h; exact absurd h q
  · rw [if_neg q] at h
    by_cases c : allN n (fun i => decide (0 ≤ chS (S i))) = true
    · exact ⟨by omega, fun i hi => by have := allN_iff.1 c i hi; simpa using this⟩
    · rw [if_neg c] at h; omega
theorem chE_r {nb n : Nat} {b : Nat → Bool} {S : Nat → IV} (h : rgE nb n b ≠ 0) : chE nb n b S = rgE nb n b := by unfold chE; rw [if_pos h]
theorem chE_large {nb n : Nat} {b : Nat → Bool} {S : Nat → IV} (h : rgE nb n b = 0) {i : Nat} (hi : i < n) (q : chS (S i) < 0) : chE nb n b S = 4 := by
  unfold chE
  rw [if_neg (by omega), if_neg (by rw [allN_false.2 ⟨i, hi, by simp; omega⟩]; decide)]
theorem chE_ok {nb n : Nat} {b : Nat → Bool} {S : Nat → IV} (h : rgE nb n b = 0) (q : ∀ i, i < n → 0 ≤ chS (S i)) : chE nb n b S = 0 := by
  unfold chE
  rw [if_neg (by omega), if_pos (allN_iff.2 fun i hi => by simpa using q i hi)]
theorem leS_le (S : Nat → IV) {n i : Nat} (h : i < n) : leS S n ≤ chS (S i) := by
  induction n with
  | zero => omega
  | succ n ih =>
    unfold leS
    by_cases e : i = n
    · subst e; omega
    · have := ih (by omega); omega
theorem leS_top (S : Nat → IV) (n : Nat) : leS S n ≤ 30 := by
  induction n with
  | zero => exact Int.le_refl _
  | succ n ih => unfold leS; omega
theorem leS_at (S : Nat → IV) {n : Nat} (h : 0 < n) : ∃ i, i < n ∧ leS S n = chS (S i) := by
  induction n with
  | zero => omega
  | succ n ih =>
    unfold leS
    by_cases q : chS (S n) ≤ leS S n
    · exact ⟨n, by omega, by omega⟩
    · rcases Nat.eq_zero_or_pos n with h0 | h0
      · subst h0
        exfalso; have := (chS_bd (S 0)).2; unfold leS at q; omega
      · obtain ⟨i, hi, e⟩ := ih h0
        exact ⟨i, by omega, by omega⟩
theorem leS_nn {S : Nat → IV} {n : Nat} (h : ∀ i, i < n → 0 ≤ chS (S i)) : 0 ≤ leS S n := by
  induction n with
  | zero => unfold leS; omega
  | succ n ih =>
    unfold leS
    have := ih fun i hi => h i (by omega)
    have := h n (by omega)
    omega
/-- Chosen scales fit. -/
theorem ft_ch {S : Nat → IV} {n : Nat} (h : ∀ i, i < n → 0 ≤ chS (S i)) : ftB S (fun i => chS (S i)) n = true := allN_iff.2 fun i hi => by
  have h0 := h i hi
  have hb := chS_bd (S i)
  obtain ⟨k, hk⟩ : ∃ k : Nat, chS (S i) = k := ⟨(chS (S i)).toNat, by omega⟩
  have f1 := chS_fit h0
  rw [hk] at f1
  have f2 := fitB_wide mgD_ok (by omega) f1
  simp only [Bool.and_eq_true, decide_eq_true_eq, hk]
  exact ⟨by omega, by omega, f2⟩
/-- So does the least of them. -/
theorem ft_le {S : Nat → IV} {n : Nat} (hok : ∀ i, i < n → (S i).lo.ok ∧ (S i).hi.ok) (h : ∀ i, i < n → 0 ≤ chS (S i)) : ftB S (fun _ => leS S n) n = true := allN_iff.2 fun i hi => by
  have h0 := h i hi
  have hb := chS_bd (S i)
  obtain ⟨k, hk⟩ : ∃ k : Nat, chS (S i) = k := ⟨(chS (S i)).toNat, by omega⟩
  have l0 := leS_nn h
  have l1 := leS_le S hi
  obtain ⟨l, hl⟩ : ∃ l : Nat, leS S n = l := ⟨(leS S n).toNat, by omega⟩
  have f1 := chS_fit h0
  rw [hk] at f1
  have f2 := fitB_wide mgD_ok (by omega) (fitB_less mgD_ok (mgD_nn (hok i hi).1 (hok i hi).2) (by omega) (show l ≤ k by omega) f1)
  simp only [Bool.and_eq_true, decide_eq_true_eq, hl]
  exact ⟨by omega, by omega, f2⟩

/-! ### Shifts -/
/-- The scale of an argument of a block. -/
def asc (D : Dia) (F : Nat → Int) (i j : Nat) : Int := if (D.B i).k = 0 then (D.P (sr D i j)).fr else F (sr D i j)
def dif (D : Dia) (F : Nat → Int) (i j : Nat) : Bool := !(asc D F i j == F i)
/-- The arguments of the first n blocks that need a shift. -/
def shN (D : Dia) (F : Nat → Int) : Nat → Nat
  | 0 => 0
  | i + 1 => shN D F i + cnt (D.B i).n (dif D F i)
theorem cnt_and {n : Nat} {p q r : Nat → Bool} (h : ∀ i, i < n → p i = true → q i = true ∨ r i = true) : cnt n p ≤ cnt n q + cnt n r := by
  induction n with
  | zero => exact Nat.zero_le _
  | succ n ih =>
    unfold cnt
    have a := ih fun i hi => h i (by omega)
    have b := h n (by omega)
    cases hp : p n with
    | false => simp; omega
    | true => rcases b hp with c | c <;> rw [c] <;> simp <;> omega
theorem shN_le {D : Dia} (wf : WF D) (F : Nat → Int) : ∀ n, n ≤ D.nb → shN D F n ≤ 2 * n
  | 0, _ => Nat.le_refl 0
  | n + 1, h => by
    unfold shN
    have a := shN_le wf F n (by omega)
    have b := cnt_le (D.B n).n (dif D F n)
    have c := (wf.ns2 (i := n) (by omega)).2
    omega
theorem shN_congr {D : Dia} {F G : Nat → Int} : ∀ n, (∀ i, i < n → ∀ j, j < (D.B i).n → dif D F i j = dif D G i j) → shN D F n = shN D G n
  | 0, _ => rfl
  | n + 1, h => by
    unfold shN
    rw [shN_congr n fun i hi => h i (by omega), cnt_congr fun j hj => h n (by omega) j hj]
/-- The input blocks among the first n whose ports have another scale. -/
def inN (D : Dia) (f : Int) : Nat → Nat
  | 0 => 0
  | i + 1 => inN D f i + if (D.B i).k = 0 ∧ (D.P (sr D i 0)).fr ≠ f then 1 else 0
def kinN (D : Dia) : Nat → Nat
  | 0 => 0
  | i + 1 => kinN D i + if (D.B i).k = 0 then 1 else 0
theorem inN_le (D : Dia) (f : Int) : ∀ n, inN D f n ≤ kinN D n ∧ kinN D n ≤ n
  | 0 => ⟨Nat.le_refl 0, Nat.le_refl 0⟩
  | n + 1 => by
    have := inN_le D f n
    unfold inN kinN
    by_cases h : (D.B n).k = 0
    · rw [if_pos h]; split <;> omega
    · rw [if_neg h, if_neg (fun q => h q.1)]; omega
/-- With equal scales only inputs need shifts. -/
theorem sh_same {D : Dia} (ok : OkD D) {F : Nat → Int} {f : Int} (hF : ∀ i, i < D.nb → F i = f) : ∀ n, n ≤ D.nb → shN D F n = inN D f n
  | 0, _ => rfl
  | n + 1, h => by
    unfold shN inN
    rw [sh_same ok hF n (by omega)]
    have key : cnt (D.B n).n (dif D F n) = if (D.B n).k = 0 ∧ (D.P (sr D n 0)).fr ≠ f then 1 else 0 := by
      by_cases hk : (D.B n).k = 0
      · have hn : (D.B n).n = 1 := by
          have := ok.ar n (by omega); rw [hk] at this
          have e : arity 0 = 1 := by decide
          omega
        have hd : dif D F n 0 = !((D.P (sr D n 0)).fr == f) := by unfold dif asc; rw [if_pos hk, hF n (by omega)]
        rw [hn]
        show 0 + (if dif D F n 0 = true then 1 else 0) = _
        rw [hd]
        by_cases q : (D.P (sr D n 0)).fr = f
        · rw [if_neg (fun c : (D.B n).k = 0 ∧ (D.P (sr D n 0)).fr ≠ f => c.2 q)]; simp [q]
        · rw [if_pos (⟨hk, q⟩ : (D.B n).k = 0 ∧ (D.P (sr D n 0)).fr ≠ f)]; simp [q]
      · rw [if_neg (fun q : (D.B n).k = 0 ∧ (D.P (sr D n 0)).fr ≠ f => hk q.1)]
        refine cnt_zero fun j hj => ?_
        have hj' : j < ns D n := by unfold ns; rw [if_neg hk]; exact hj
        have hs := (ok.toWF.src (i := n) (by omega) hj').2.1
        unfold dif asc
        rw [if_neg hk, hF n (by omega), hF _ hs]; simp
    rw [key]
/-- The places at which block i is an argument of the first n blocks. -/
def usN (D : Dia) (i : Nat) : Nat → Nat
  | 0 => 0
  | k + 1 => usN D i k + if (D.B k).k = 0 then 0 else cnt (D.B k).n (fun j => sr D k j == i)
theorem us_le {D : Dia} (wf : WF D) (i : Nat) : ∀ n, n ≤ D.nb → usN D i n ≤ 2 * n
  | 0, _ => Nat.le_refl 0
  | n + 1, h => by
    unfold usN
    have a := us_le wf i n (by omega)
    have b := cnt_le (D.B n).n (fun j => sr D n j == i)
    have c := (wf.ns2 (i := n) (by omega)).2
    split <;> omega
/-- Another scale of one block changes the number by at most its arguments and the places where it is one. -/
theorem sh_move {D : Dia} {F G : Nat → Int} {x : Nat} (h : ∀ i, i ≠ x → G i = F i) : ∀ n, shN D G n ≤ shN D F n + (if x < n then (D.B x).n else 0) + usN D x n
  | 0 => Nat.zero_le _
  | n + 1 => by
    have a := sh_move (D := D) h n
    unfold shN usN
    by_cases e : x = n
    · subst e
      have b := cnt_le (D.B x).n (dif D G x)
      rw [if_neg (by omega)] at a
      rw [if_pos (by omega)]
      omega
    · have b : cnt (D.B n).n (dif D G n) ≤ cnt (D.B n).n (dif D F n) + (if (D.B n).k = 0 then 0 else cnt (D.B n).n (fun j => sr D n j == x)) := by
        by_cases hk : (D.B n).k = 0
        · rw [if_pos hk]
          refine Nat.le_of_eq (cnt_congr fun j _ => ?_)
          unfold dif asc; rw [if_pos hk, if_pos hk, h n (fun q => e q.symm)]
        · rw [if_neg hk]
          refine cnt_and fun j _ hj => ?_
          by_cases q : sr D n j = x
          · exact .inr (by simpa using q)
          · refine .inl ?_
            unfold dif asc at hj ⊢
            rw [if_neg hk] at hj ⊢
            rw [h n (fun q => e q.symm), h _ q] at hj
            exact hj
      by_cases q : x < n
      · rw [if_pos q] at a; rw [if_pos (by omega)]; omega
      · rw [if_neg q] at a; rw [if_neg (by omega)]; omega
end Go.Proofs.YtgnngldlgcdnfaaGreatDoor
