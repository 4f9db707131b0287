/- Exact values of diagrams: mathematics. -/
import Derived.Test.YtcdkkohklhmpgaaGreatDoorDhej
import Derived.Test.YtcdkkohklhmpgaaGreatDoorBit
import Derived.Test.YtcdkkohklhmpgaaGreatDoorDym
import Derived.Test.YtcdkkohklhmpgaaGreatDoorDgik
namespace Go.Proofs.YtcdkkohklhmpgaaGreatDoor

/-! ### Eya -/
section
open Go Go.RowKit

/-! ### Values -/
/-- The value of a block that is no input and no delay, from those of its arguments. -/
def fv (b : Blk) (x y : DV) : DV :=
  if b.k = 1 then nmS b.vn b.ve else if b.k = 3 then addD x y else if b.k = 4 then subD x y else if b.k = 5 then negD x else
  if b.k = 6 then mulD (nmS b.vn b.ve) x else if b.k = 7 then mulD x y else if b.k = 8 then minD x y else if b.k = 9 then maxD x y else
  if b.k = 10 then absD x else maxD (nmS b.vn b.ve) (minD x (nmS b.un b.ue))
/-- The value of a raw input. -/
def prtV (p : Prt) (x : Int) : DV := shiftD (ofI x 0) (-p.fr)
/-- The value of a block that is no delay. -/
def bval (D : Dia) (IN : Nat → Int) (V : Nat → DV) (i : Nat) : DV :=
  if (D.B i).k = 0 then prtV (D.P (sr D i 0)) (IN (sr D i 0)) else fv (D.B i) (V (sr D i 0)) (V (sr D i 1))
/-- The place of a delay among the delays. -/
def plc (D : Dia) (i : Nat) : Nat := cnt i (isD D)
def lng (x : DV) : Bool := decide (4096 < max (bitsN x.m) x.den)
def putV (V : Nat → DV) (i : Nat) (x : DV) : Nat → DV := fun j => if j = i then x else V j
theorem putV_same (V : Nat → DV) (i : Nat) (x : DV) : putV V i x i = x := if_pos rfl
theorem putV_ne (V : Nat → DV) {i j : Nat} (x : DV) (h : j ≠ i) : putV V i x j = V j := if_neg h
def goV (D : Dia) (IN : Nat → Int) : List Nat → (Nat → DV) → (Nat → DV)
  | [], V => V
  | i :: L, V => goV D IN L (putV V i (bval D IN V i))
theorem goV_app (D : Dia) (IN : Nat → Int) (L K : List Nat) (V : Nat → DV) : goV D IN (L ++ K) V = goV D IN K (goV D IN L V) := by
  induction L generalizing V with
  | nil => rfl
  | cons i L ih => exact ih _
theorem goV_off (D : Dia) (IN : Nat → Int) (L : List Nat) (V : Nat → DV) (j : Nat) (h : j ∉ L) : goV D IN L V j = V j := by
  induction L generalizing V with
  | nil => rfl
  | cons i L ih =>
    show goV D IN L _ j = _
    rw [ih _ (fun q => h (List.mem_cons_of_mem _ q)), putV_ne _ _ (fun q => h (by rw [q]; exact List.mem_cons_self))]
/-- The values when the delays are laid, and after k blocks of the order. -/
def v0 (D : Dia) (S : Nat → DV) : Nat → DV := fun i => if isD D i = true then S (plc D i) else DV.zero
def vk (D : Dia) (S : Nat → DV) (IN : Nat → Int) (k : Nat) : Nat → DV := goV D IN ((ordL D).take k) (v0 D S)
/-- The values of a tick. -/
def tkV (D : Dia) (S : Nat → DV) (IN : Nat → Int) : Nat → DV := goV D IN (ordL D) (v0 D S)
def tkG (D : Dia) (S : Nat → DV) (IN : Nat → Int) : Bool := allN D.nb (fun i => !lng (tkV D S IN i))
theorem vk_end (D : Dia) (S : Nat → DV) (IN : Nat → Int) : vk D S IN (ordL D).length = tkV D S IN := by unfold vk tkV; rw [List.take_length]
theorem vk_zero (D : Dia) (S : Nat → DV) (IN : Nat → Int) : vk D S IN 0 = v0 D S := rfl
theorem vk_succ (D : Dia) (S : Nat → DV) (IN : Nat → Int) {k : Nat} (hk : k < (ordL D).length) :
    vk D S IN (k + 1) = putV (vk D S IN k) ((ordL D).getD k 0) (bval D IN (vk D S IN k) ((ordL D).getD k 0)) := by
  unfold vk
  rw [List.take_succ_eq_append_getElem hk, goV_app]
  have : (ordL D).getD k 0 = (ordL D)[k] := by simp [List.getD, hk]
  rw [this]; rfl
theorem ord_uniq {D : Dia} (ok : OkD D) {k m : Nat} (hk : k < (ordL D).length) (hm : m < (ordL D).length) (e : (ordL D).getD m 0 = (ordL D).getD k 0) : m = k := by
  have hr := ord_rdy hk
  have hd : isD D ((ordL D).getD k 0) = false := (rdy_iff.1 hr.2.1).2.1
  obtain ⟨t, h1, _, h3, h4, h5⟩ := posP_yes ok hr.1 hd
  have a : ∀ x, x < (ordL D).length → (ordL D).getD x 0 = (ordL D).getD k 0 → x = t := fun x hx ex => by
    rcases Nat.lt_trichotomy x t with q | q | q
    · exact absurd ex (h4 x q)
    · exact q
    · exact absurd ex (h5 x hx q)
  rw [a m hm e, a k hk rfl]
theorem mem_drop {D : Dia} {k x : Nat} (h : x ∈ (ordL D).drop k) : ∃ m, k ≤ m ∧ m < (ordL D).length ∧ (ordL D).getD m 0 = x := by
  obtain ⟨m, hm, e⟩ := List.getElem_of_mem h
  rw [List.length_drop] at hm
  rw [List.getElem_drop] at e
  exact ⟨k + m, by omega, by omega, by simp [List.getD, show k + m < (ordL D).length by omega, e]⟩
/-- What stands before place k, or is a delay, has its value from then on. -/
theorem vk_done {D : Dia} (S : Nat → DV) (IN : Nat → Int) {k x : Nat} (h : x ∉ (ordL D).drop k) : vk D S IN k x = tkV D S IN x := by
  unfold vk tkV
  conv => rhs; rw [← List.take_append_drop k (ordL D), goV_app]
  rw [goV_off _ _ _ _ _ h]
theorem del_off {D : Dia} {k x : Nat} (h : isD D x = true) : x ∉ (ordL D).drop k := fun q => by
  obtain ⟨m, _, hm, e⟩ := mem_drop q
  have := (rdy_iff.1 (ord_rdy hm).2.1).2.1
  rw [e, h] at this; cases this
theorem src_off {D : Dia} (ok : OkD D) {k j : Nat} (hk : k < (ordL D).length) (hj : j < ns D ((ordL D).getD k 0)) : sr D ((ordL D).getD k 0) j ∉ (ordL D).drop k := by
  rcases (rdy_iff.1 (ord_rdy hk).2.1).2.2 j hj with h | h
  · intro q
    obtain ⟨m, hm, hl, e⟩ := mem_drop q
    obtain ⟨t, ht, htl, et⟩ := inL_take.1 h
    have := ord_uniq ok hl htl (by rw [et, e])
    omega
  · exact del_off h
theorem fv_congr {b : Blk} {x y x' y' : DV} (h0 : 0 < arity b.k → x = x') (h1 : 1 < arity b.k → y = y') : fv b x y = fv b x' y' := by
  unfold fv arity at *
  by_cases e1 : b.k = 1
  · rw [if_pos e1, if_pos e1]
  · rw [if_neg e1] at h0 h1
    by_cases e2 : b.k = 3 ∨ b.k = 4 ∨ b.k = 7 ∨ b.k = 8 ∨ b.k = 9
    · rw [if_pos e2] at h0 h1
      rw [h0 (by decide), h1 (by decide)]
    · rw [if_neg e2] at h0
      rw [h0 (by decide), if_neg e1, if_neg e1]
      have a : ¬ b.k = 3 := by omega
      have b' : ¬ b.k = 4 := by omega
      have c : ¬ b.k = 7 := by omega
      have d : ¬ b.k = 8 := by omega
      have e : ¬ b.k = 9 := by omega
      rw [if_neg a, if_neg a, if_neg b', if_neg b']
      by_cases f : b.k = 5
      · rw [if_pos f, if_pos f]
      · rw [if_neg f, if_neg f]
        by_cases g : b.k = 6
        · rw [if_pos g, if_pos g]
        · rw [if_neg g, if_neg g, if_neg c, if_neg c, if_neg d, if_neg d, if_neg e, if_neg e]
theorem bval_congr {D : Dia} (wf : WF D) {IN : Nat → Int} {V V' : Nat → DV} {i : Nat} (hi : i < D.nb) (h : ∀ j, j < ns D i → V (sr D i j) = V' (sr D i j)) : bval D IN V i = bval D IN V' i := by
  unfold bval
  by_cases e : (D.B i).k = 0
  · rw [if_pos e, if_pos e]
  · rw [if_neg e, if_neg e]
    have hn : ns D i = (D.B i).n := by unfold ns; rw [if_neg e]
    have ha := wf.ar i hi
    exact fv_congr (fun q => h 0 (by omega)) (fun q => h 1 (by omega))
/-- Each block has its value from those of its arguments. -/
theorem tk_ord {D : Dia} (ok : OkD D) (S : Nat → DV) (IN : Nat → Int) {k : Nat} (hk : k < (ordL D).length) :
    bval D IN (vk D S IN k) ((ordL D).getD k 0) = tkV D S IN ((ordL D).getD k 0) ∧ tkV D S IN ((ordL D).getD k 0) = bval D IN (tkV D S IN) ((ordL D).getD k 0) := by
  have h1 : bval D IN (vk D S IN k) ((ordL D).getD k 0) = bval D IN (tkV D S IN) ((ordL D).getD k 0) := bval_congr ok.toWF (ord_rdy hk).1 fun j hj => vk_done S IN (src_off ok hk hj)
  have h2 : vk D S IN (k + 1) ((ordL D).getD k 0) = tkV D S IN ((ordL D).getD k 0) := vk_done S IN fun q => by
    obtain ⟨m, hm, hl, e⟩ := mem_drop q
    have := ord_uniq ok hk hl e
    omega
  rw [vk_succ D S IN hk, putV_same] at h2
  exact ⟨h2, h2.symm.trans h1⟩
theorem tk_eq {D : Dia} (ok : OkD D) (S : Nat → DV) (IN : Nat → Int) {i : Nat} (hi : i < D.nb) (h : isD D i = false) : tkV D S IN i = bval D IN (tkV D S IN) i := by
  obtain ⟨t, h1, _, h3, _⟩ := posP_yes ok hi h
  have := (tk_ord ok S IN h1).2
  rwa [h3] at this
theorem tk_del {D : Dia} (S : Nat → DV) (IN : Nat → Int) {i : Nat} (h : isD D i = true) : tkV D S IN i = S (plc D i) := by
  rw [← vk_done S IN (k := 0) (del_off h), vk_zero]
  unfold v0; rw [if_pos h]
/-- What has the equations has the values. -/
theorem tk_uniq {D : Dia} (ok : OkD D) (S : Nat → DV) (IN : Nat → Int) {V : Nat → DV} (hd : ∀ i, i < D.nb → isD D i = true → V i = S (plc D i)) (hb : ∀ i, i < D.nb → isD D i = false → V i = bval D IN V i) :
    ∀ i, i < D.nb → V i = tkV D S IN i := by
  have key : ∀ k, k ≤ (ordL D).length → ∀ m, m < k → V ((ordL D).getD m 0) = tkV D S IN ((ordL D).getD m 0) := by
    intro k
    induction k with
    | zero => intro _ m hm; omega
    | succ k ih =>
      intro hk m hm
      by_cases e : m = k
      · subst e
        have hr := ord_rdy (D := D) (k := m) (by omega)
        obtain ⟨_, q1, q2⟩ := rdy_iff.1 hr.2.1
        rw [hb _ hr.1 q1, (tk_ord ok S IN (by omega : m < (ordL D).length)).2]
        refine bval_congr ok.toWF hr.1 fun j hj => ?_
        rcases q2 j hj with q | q
        · obtain ⟨t, ht, htl, et⟩ := inL_take.1 q
          have := ih (by omega) t ht
          rwa [et] at this
        · rw [hd _ (ok.src hr.1 hj).2.1 q, tk_del S IN q]
      · exact ih (by omega) m (by omega)
  intro i hi
  cases h : isD D i with
  | true => rw [hd i hi h, tk_del S IN h]
  | false =>
    obtain ⟨t, h1, _, h3, _⟩ := posP_yes ok hi h
    have := key (ordL D).length (Nat.le_refl _) t h1
    rwa [h3] at this

/-! ### Ticks -/
def inR (D : Dia) (IN : Nat → Int) : Bool := allN D.ni (fun i => decide ((D.P i).lo ≤ IN i) && decide (IN i ≤ (D.P i).hi))
/-- The first error of a tick. -/
def stE (D : Dia) (n : Nat) (b : Nat → Bool) (S : Nat → DV) (m : Nat) (IN : Nat → Int) : Int :=
  if n ≠ (delL D).length then 11 else if allN n b = false then 2 else if m ≠ D.ni then 11 else if inR D IN = false then 3 else if tkG D S IN = false then 4 else 0
/-- The next state. -/
def nxS (D : Dia) (V : Nat → DV) : Nat → DV := fun k => V (sr D ((delL D).getD k 0) 0)
def s0S (D : Dia) : Nat → DV := fun k => nmS (D.B ((delL D).getD k 0)).vn (D.B ((delL D).getD k 0)).ve
/-- The states of a run. -/
def sqS (D : Dia) (IN : Nat → Nat → Int) : Nat → (Nat → DV)
  | 0 => s0S D
  | t + 1 => nxS D (tkV D (sqS D IN t) (IN t))
def rnE (D : Dia) (n : Nat) (m : Nat → Nat) (IN : Nat → Nat → Int) : Int := fstE n (fun t => stE D (delL D).length (fun _ => true) (sqS D IN t) (m t) (IN t))
theorem allN_true (n : Nat) : allN n (fun _ => true) = true := allN_iff.2 fun _ _ => rfl
theorem stE_good {D : Dia} {n m : Nat} {b : Nat → Bool} {S : Nat → DV} {IN : Nat → Int} (h : stE D n b S m IN = 0) : n = (delL D).length ∧ (∀ i, i < n → b i = true) ∧ m = D.ni ∧ (∀ i, i < D.ni → (D.P i).lo ≤ IN i ∧ IN i ≤ (D.P i).hi) ∧ ∀ i, i < D.nb → lng (tkV D S IN i) = false := by
  unfold stE at h
  by_cases h1 : n ≠ (delL D).length
  · rw [if_pos h1] at h; omega
  rw [if_neg h1] at h
  cases h2 : allN n b with
  | false => rw [if_pos h2] at h; omega
  | true =>
    rw [if_neg (by rw [h2]; decide)] at h
    by_cases h3 : m ≠ D.ni
    · rw [if_pos h3] at h; omega
    rw [if_neg h3] at h
    cases h4 : inR D IN with
    | false => rw [if_pos h4] at h; omega
    | true =>
      rw [if_neg (by rw [h4]; decide)] at h
      cases h5 : tkG D S IN with
      | false => rw [if_pos h5] at h; omega
      | true =>
        refine ⟨by omega, allN_iff.1 h2, by omega, fun i hi => ?_, fun i hi => ?_⟩
        · have := allN_iff.1 h4 i hi; simpa using this
        · have := allN_iff.1 h5 i hi; simpa using this
theorem del_at {D : Dia} {k : Nat} (hk : k < (delL D).length) : (delL D).getD k 0 < D.nb ∧ isD D ((delL D).getD k 0) = true := by
  have : (delL D).getD k 0 ∈ mkL D.nb (isD D) := by
    rw [List.getD_eq_getElem?_getD, List.getElem?_eq_getElem hk]; exact List.getElem_mem _
  exact mem_mkL.1 this

/-! ### Sizes -/
theorem lt_bits : ∀ (n m : Nat), bitsN m = n → m < 2 ^ n
  | 0, m, h => by
    by_cases h0 : m = 0
    · subst h0; decide
    · rw [bitsN_pos h0] at h; omega
  | n + 1, m, h => by
    by_cases h0 : m = 0
    · subst h0; exact Nat.pow_pos (by decide)
    · rw [bitsN_pos h0] at h
      have := lt_bits n (m / 2) (by omega)
      rw [Nat.pow_succ]; omega
theorem pow_pB {a k : Nat} (h : a ≤ 32 * k) : 2 ^ a ≤ pB k := by rw [pB_two]; exact Nat.pow_le_pow_right (by decide) h
theorem short_len {x : DV} (h : lng x = false) : len x.m ≤ 128 ∧ x.den ≤ 4096 := by
  have h' : max (bitsN x.m) x.den ≤ 4096 := by
    unfold lng at h; simpa using h
  refine ⟨len_le ?_, by omega⟩
  have := lt_bits _ x.m rfl
  exact Nat.lt_of_lt_of_le this (pow_pB (k := 128) (by omega))
theorem len_al {a : DV} {n : Nat} (h : len a.m ≤ 300) (hn : n ≤ 32000) : len (al a n) ≤ 1400 := by
  unfold al
  have := len_shl a.m (n - a.den)
  have : (n - a.den) / 32 ≤ 1000 := by omega
  omega
theorem len_mk (neg : Bool) (m k : Nat) : len (mkD neg m k).m ≤ len m := len_mono (mkD_le _ _ _)
theorem len_addD {a b : DV} (ha : len a.m ≤ 300) (hb : len b.m ≤ 300) (da : a.den ≤ 32000) (db : b.den ≤ 32000) : len (addD a b).m ≤ 1401 := by
  have h1 := len_al ha (n := max a.den b.den) (by omega)
  have h2 := len_al hb (n := max a.den b.den) (by omega)
  unfold addD
  split
  · refine Nat.le_trans (len_mk _ _ _) ?_
    have := len_add (al a (max a.den b.den)) (al b (max a.den b.den))
    omega
  · split
    · refine Nat.le_trans (len_mk _ _ _) (Nat.le_trans (len_mono (Nat.sub_le _ _)) (by omega))
    · refine Nat.le_trans (len_mk _ _ _) (Nat.le_trans (len_mono (Nat.sub_le _ _)) (by omega))
theorem negD_den (a : DV) (h : a.den ≤ 65536) : (negD a).den ≤ a.den := by
  unfold negD; rw [mkD_small h]; unfold nrm; split
  · exact Nat.zero_le _
  · exact Nat.sub_le _ _
theorem len_subD {a b : DV} (ha : len a.m ≤ 300) (hb : len b.m ≤ 300) (da : a.den ≤ 32000) (db : b.den ≤ 32000) : len (subD a b).m ≤ 1401 := by
  unfold subD
  have := negD_den b (by omega)
  exact len_addD ha (Nat.le_trans (len_negD b) hb) da (by omega)
theorem nmS_len' {n e : Int} (h1 : -9223372036854775808 ≤ n) (h2 : n ≤ 9223372036854775807) (h3 : e ≤ 30) : len (nmS n e).m ≤ 3 := by
  have a : (ofI n 0).m ≤ n.natAbs := by
    rw [ofI_form]; split
    · exact Nat.zero_le _
    · exact Nat.le_refl _
  have b : (nmS n e).m ≤ 9223372036854775808 * 1073741824 := by
    unfold nmS shiftD
    split
    · exact Nat.le_trans (mkD_le _ _ _) (by omega)
    · refine Nat.le_trans (mkD_le _ _ _) (Nat.mul_le_mul (by omega) ?_)
      have : (2 : Nat) ^ (clampN e).toNat ≤ 2 ^ 30 := Nat.pow_le_pow_right (by decide) (by unfold clampN; omega)
      simpa using this
  refine len_le (n := 3) ?_
  show _ < 4294967296 ^ 3; omega
theorem mkD_den (neg : Bool) (m k : Nat) : (mkD neg m k).den ≤ k := by
  unfold mkD
  split
  · unfold nrm; split
    · exact Nat.zero_le _
    · exact Nat.sub_le _ _
  · unfold nrm; split
    · exact Nat.zero_le _
    · show 65536 - _ ≤ k; omega
theorem nmS_den {n e : Int} (h1 : -62 ≤ e) : (nmS n e).den ≤ 62 := by
  have h0 : (ofI n 0).den ≤ 0 := mkD_den _ _ _
  unfold nmS shiftD
  split
  · refine Nat.le_trans (mkD_den _ _ _) ?_
    unfold clampN; omega
  · refine Nat.le_trans (mkD_den _ _ _) ?_
    omega
/-- Short enough to be computed with. -/
structure Shr (x : DV) : Prop where
  ok : x.ok
  len : len x.m ≤ 300
  den : x.den ≤ 32000
theorem Shr.of {x : DV} (h : lng x = false) (ok : x.ok) : Shr x := ⟨ok, by have := short_len h; omega, by have := short_len h; omega⟩
theorem Shr.nm {n e : Int} (h1 : -9223372036854775808 ≤ n) (h2 : n ≤ 9223372036854775807) (h3 : -62 ≤ e) (h4 : e ≤ 30) : Shr (nmS n e) :=
  ⟨nmS_ok _ _, by have := nmS_len' h1 h2 h4; omega, by have := nmS_den (n := n) h3; omega⟩
theorem Shr.zero : Shr DV.zero := ⟨DV.zero_ok, by rw [zero_len]; omega, by decide⟩
theorem prtV_eq (p : Prt) (x : Int) : prtV p x = nmS x (-p.fr) := rfl
theorem len_fv {b : Blk} {x y : DV} (hx : Shr x) (hy : Shr y) (hv : Shr (nmS b.vn b.ve)) (hu : Shr (nmS b.un b.ue)) : len (fv b x y).m ≤ 1401 ∧ (fv b x y).ok := by
  unfold fv
  have l1 : ∀ a c, Shr a → Shr c → len (mulD a c).m ≤ 1401 := fun a c ha hc => by
    unfold mulD
    refine Nat.le_trans (len_mk _ _ _) (Nat.le_trans (len_mul _ _) ?_)
    have := ha.len; have := hc.len; omega
  have l2 : ∀ a c : DV, Shr a → Shr c → Shr (minD a c) := fun a c ha hc => by unfold minD; split <;> assumption
  have l3 : ∀ a c : DV, Shr a → Shr c → Shr (maxD a c) := fun a c ha hc => by unfold maxD; split <;> assumption
  have l4 : ∀ a, Shr a → len a.m ≤ 1401 ∧ a.ok := fun a ha => ⟨by have := ha.len; omega, ha.ok⟩
  repeat' split
  · exact l4 _ hv
  · exact ⟨len_addD hx.len hy.len hx.den hy.den, addD_ok _ _⟩
  · exact ⟨len_subD hx.len hy.len hx.den hy.den, subD_ok _ _⟩
  · exact ⟨by have := len_negD x; have := hx.len; omega, negD_ok _⟩
  · exact ⟨l1 _ _ hv hx, mulD_ok _ _⟩
  · exact ⟨l1 _ _ hx hy, mulD_ok _ _⟩
  · exact l4 _ (l2 _ _ hx hy)
  · exact l4 _ (l3 _ _ hx hy)
  · exact ⟨by have : len (absD x).m ≤ len x.m := len_mk _ _ _
              have := hx.len; omega, absD_ok _⟩
  · exact l4 _ (l3 _ _ hv (l2 _ _ hx hu))
/-! ### A clip, written in two ways -/
theorem minD_q {a b : DV} (ha : a.ok) (hb : b.ok) : minD a b = if b.q < a.q then b else a := by
  unfold minD
  rw [cmpD_sgn ha hb]
  unfold sgn
  by_cases h : b.q < a.q
  · have s1 : ¬ a.q - b.q < 0 := by grind
    have s2 : 0 < a.q - b.q := by grind
    rw [if_pos h, if_neg s1, if_pos s2, if_pos (by decide)]
  · have s2 : ¬ 0 < a.q - b.q := by grind
    rw [if_neg h, if_neg s2]
    split <;> rfl
theorem maxD_q {a b : DV} (ha : a.ok) (hb : b.ok) : maxD a b = if a.q < b.q then b else a := by
  unfold maxD
  rw [cmpD_sgn ha hb]
  unfold sgn
  by_cases h : a.q < b.q
  · have s1 : a.q - b.q < 0 := by grind
    rw [if_pos h, if_pos s1, if_pos (by decide)]
  · have s1 : ¬ a.q - b.q < 0 := by grind
    rw [if_neg h, if_neg s1]
    by_cases s2 : 0 < a.q - b.q
    · rw [if_pos s2]; rfl
    · rw [if_neg s2]; rfl
theorem clip_eq {x lo hi : DV} (hx : x.ok) (hl : lo.ok) (hh : hi.ok) (h : lo.q ≤ hi.q) : maxD lo (minD x hi) = minD (maxD x lo) hi := by
  rw [maxD_q hl (minD_ok hx hh), minD_q hx hh, minD_q (maxD_ok hx hl) hh, maxD_q hx hl]
  by_cases h1 : hi.q < x.q
  · rw [if_pos h1]
    have h2 : ¬ x.q < lo.q := by grind
    rw [if_neg h2, if_pos h1]
    by_cases h3 : lo.q < hi.q
    · rw [if_pos h3]
    · rw [if_neg h3]; exact DV.uniq hl hh (by grind)
  · rw [if_neg h1]
    by_cases h2 : x.q < lo.q
    · rw [if_pos h2, if_neg (by grind), if_neg (by grind)]
    · rw [if_neg h2, if_neg h1]
      by_cases h3 : lo.q < x.q
      · rw [if_pos h3]
      · rw [if_neg h3]; exact DV.uniq hl hx (by grind)
end

/-! ### Eyb -/
section
open Go Go.RowKit

/-- The struct of a number, as it lies. -/
structure RN where
  neg : Bool
  A : Option Addr
  n : Nat
  c : Nat
  den : Int
abbrev RN.v (r : RN) : Value := dv r.neg r.A r.n r.c r.den
def RN.z : RN := ⟨false, none, 0, 0, 0⟩
def cnR (d : DV) (A : Option Addr) (c : Nat) : RN := ⟨d.neg, A, len d.m, c, d.den⟩
/-- The struct is the number d in its normal form. -/
structure Cn (w : World) (r : RN) (d : DV) : Prop where
  eq : r = cnR d r.A r.c
  rd : Rd w r.A (len d.m) (dg d.m)
  sl : SlOk r.A (len d.m) r.c
  ok : d.ok
  lim : len d.m ≤ 16777216
theorem Cn.ext {w w' : World} {r : RN} {d : DV} (h : Cn w r d) (e : Ext w w') : Cn w' r d := ⟨h.eq, h.rd.ext e, h.sl, h.ok, h.lim⟩
theorem Cn.neg {w : World} {r : RN} {d : DV} (h : Cn w r d) : r.neg = d.neg := by rw [h.eq]; rfl
theorem Cn.n {w : World} {r : RN} {d : DV} (h : Cn w r d) : r.n = len d.m := by rw [h.eq]; rfl
theorem Cn.den {w : World} {r : RN} {d : DV} (h : Cn w r d) : r.den = d.den := by rw [h.eq]; rfl
theorem Cn.dy {w : World} {r : RN} {d : DV} (h : Cn w r d) : Dy w r.neg r.A r.n r.c r.den d r.A r.c := by
  have := Dy.valid h.rd h.sl h.ok h.lim
  rw [h.neg, h.n, h.den]; exact this
theorem Cn.of {w : World} {d : DV} {A : Option Addr} {c : Nat} (hr : Rd w A (len d.m) (dg d.m)) (sl : SlOk A (len d.m) c) (ok : d.ok) (hl : len d.m ≤ 16777216) : Cn w (cnR d A c) d := ⟨rfl, hr, sl, ok, hl⟩
theorem Cn.on {w : World} {d : DV} {A : Option Addr} {b c : Nat} (h : On w b A (len d.m) c (dg d.m)) (ok : d.ok) (hl : len d.m ≤ 16777216) : Cn w (cnR d A c) d := Cn.of h.rd h.ok ok hl
theorem Cn.z (w : World) : Cn w RN.z DV.zero := ⟨by unfold RN.z cnR; rw [zero_len]; rfl, by rw [zero_len]; exact Rd.none_, by rw [zero_len]; exact ⟨Nat.le_refl _, Nat.zero_le _, fun _ => ⟨rfl, rfl⟩⟩, DV.zero_ok, by rw [zero_len]; omega⟩
theorem Cn.fr {w w' : World} {r : RN} {d : DV} {g : Nat} (h : Cn w r d) (e : w.grownBy w' (some g)) (hne : 0 < len d.m → ∀ a, r.A = some a → a.block ≠ g) : Cn w' r d :=
  ⟨h.eq, fun hn => h.rd.fr e (hne hn) hn, h.sl, h.ok, h.lim⟩

/-! ### Lists that are read -/
def Rn (w : World) (A : Option Addr) (n : Nat) (R : Nat → RN) : Prop :=
  0 < n → ∃ b o, A = some ⟨b, o, none⟩ ∧ b < w.heap.size ∧ ∀ i, i < n → w.cell? ⟨b, o + i * 3, none⟩ = some (.bool (R i).neg) ∧ w.cell? ⟨b, o + i * 3 + 1, none⟩ = some (.slice (R i).A (R i).n (R i).c) ∧ w.cell? ⟨b, o + i * 3 + 2, none⟩ = some (I (R i).den)
theorem Rn.none_ {w : World} {A : Option Addr} {R : Nat → RN} : Rn w A 0 R := fun h => absurd h (by omega)
theorem Rn.ext {w w' : World} {A : Option Addr} {n : Nat} {R : Nat → RN} (h : Rn w A n R) (e : Ext w w') : Rn w' A n R := fun hn => by
  obtain ⟨b, o, h1, hb, hc⟩ := h hn
  exact ⟨b, o, h1, Nat.lt_of_lt_of_le hb e.size, fun i hi => by
    obtain ⟨c0, c1, c2⟩ := hc i hi
    exact ⟨(e.old.1 _ _ hb).trans c0, (e.old.1 _ _ hb).trans c1, (e.old.1 _ _ hb).trans c2⟩⟩
/-- A list of numbers in normal form. -/
structure Ln (w : World) (A : Option Addr) (n : Nat) (R : Nat → RN) (V : Nat → DV) : Prop where
  rn : Rn w A n R
  el : ∀ i, i < n → Cn w (R i) (V i)
theorem Ln.ext {w w' : World} {A : Option Addr} {n : Nat} {R : Nat → RN} {V : Nat → DV} (h : Ln w A n R V) (e : Ext w w') : Ln w' A n R V := ⟨h.rn.ext e, fun i hi => (h.el i hi).ext e⟩
theorem Ln.congr {w : World} {A : Option Addr} {n : Nat} {R : Nat → RN} {V V' : Nat → DV} (h : Ln w A n R V) (e : ∀ i, i < n → V i = V' i) : Ln w A n R V' := ⟨h.rn, fun i hi => by rw [← e i hi]; exact h.el i hi⟩
theorem Ln.none_ {w : World} {A : Option Addr} {R : Nat → RN} {V : Nat → DV} : Ln w A 0 R V := ⟨Rn.none_, fun i hi => absurd hi (by omega)⟩

/-! ### Rows that are made and written -/
def nc1 (r : RN) : List Value := [.bool r.neg, .slice r.A r.n r.c, I r.den]
def rcv (R : Nat → RN) (j : Nat) : Value := if j % 3 = 0 then .bool (R (j / 3)).neg else if j % 3 = 1 then .slice (R (j / 3)).A (R (j / 3)).n (R (j / 3)).c else I (R (j / 3)).den
def putR (R : Nat → RN) (i : Nat) (r : RN) : Nat → RN := fun j => if j = i then r else R j
def putD (V : Nat → DV) (i : Nat) (x : DV) : Nat → DV := fun j => if j = i then x else V j
theorem infoDy : (Tryz.prog.info? 24).map (fun i => (i.zero.map (fun z => z.cells), i.size, i.bytes)) = some (some #[.bool false, .slice none 0 0, I 0], 3, 40) := by kernel_rfl
theorem infoDy' : ∃ i z, Tryz.prog.info? 24 = some i ∧ i.zero = some z ∧ i.size = 3 ∧ i.bytes = 40 ∧ z.cells = #[.bool false, .slice none 0 0, I 0] := by
  have h := infoDy
  cases hi : Tryz.prog.info? 24 with
  | none => rw [hi] at h; cases h
  | some i =>
    rw [hi] at h
    simp only [Option.map_some, Option.some.injEq, Prod.mk.injEq] at h
    obtain ⟨h1, h2, h3⟩ := h
    cases hz : i.zero with
    | none => rw [hz] at h1; cases h1
    | some z =>
      rw [hz] at h1
      exact ⟨i, z, rfl, hz, h2, h3, by simpa using h1⟩
theorem run_makeN (w : World) (n : Nat) (hn : n ≤ 100000) : (Instr.makeSlice 62 (I n) (I n)).run Tryz.prog w = .ok (.slice (some ⟨w.heap.size, 0, none⟩) n n) (w.alloc (.cells (madeCells #[.bool false, .slice none 0 0, I 0] (n * 3)) 24)) := by
  obtain ⟨i, z, hi, hz, h1, hb, hzs⟩ := infoDy'
  have hr := run_make (P := Tryz.prog) w 62 24 i z Tryz.underlying62 hi hz .i64 .i64 n n (by omega) (Int.le_refl _) (by rw [hb]; omega) (by omega)
  simp only [Int.toNat_natCast, h1, hzs] at hr
  exact hr
theorem rowIs_madeN (w : World) (n : Nat) (t : TypeId) {g : Nat} (hg : g = w.heap.size) : (w.alloc (.cells (madeCells #[.bool false, .slice none 0 0, I 0] (n * 3)) t)).rowIs g t (n * 3) (rcv fun _ => RN.z) := by
  subst hg
  have h := World.rowIs_alloc w (madeCells #[.bool false, .slice none 0 0, I 0] (n * 3)) t (rcv fun _ => RN.z) (fun i hi => by
    rw [size_madeCells] at hi
    unfold madeCells rcv
    have h3 : i % 3 = 0 ∨ i % 3 = 1 ∨ i % 3 = 2 := by omega
    rcases h3 with h | h | h <;> simp [hi, h, RN.z])
  rw [size_madeCells] at h
  exact h
/-- A row of n numbers that is being written. -/
structure LvM (w : World) (g n : Nat) (R : Nat → RN) (V : Nat → DV) : Prop where
  row : w.rowIs g 24 (n * 3) (rcv R)
  el : ∀ i, i < n → Cn w (R i) (V i)
  ne : ∀ i, i < n → 0 < len (V i).m → ∀ a, (R i).A = some a → a.block ≠ g
theorem LvM.ext {w w' : World} {g n : Nat} {R : Nat → RN} {V : Nat → DV} (h : LvM w g n R V) (e : Ext w w') : LvM w' g n R V := ⟨h.row.of_block (e.block g h.row.lt), fun i hi => (h.el i hi).ext e, h.ne⟩
theorem LvM.congr {w : World} {g n : Nat} {R : Nat → RN} {V V' : Nat → DV} (h : LvM w g n R V) (e : ∀ i, i < n → V i = V' i) : LvM w g n R V' := ⟨h.row, fun i hi => by rw [← e i hi]; exact h.el i hi, fun i hi => by rw [← e i hi]; exact h.ne i hi⟩
theorem LvM.new (w : World) (n : Nat) {g : Nat} (hg : g = w.heap.size) : LvM (w.alloc (.cells (madeCells #[.bool false, .slice none 0 0, I 0] (n * 3)) 24)) g n (fun _ => RN.z) (fun _ => DV.zero) :=
  ⟨rowIs_madeN w n _ hg, fun _ _ => Cn.z _, fun _ _ _ a h => by cases h⟩
theorem LvM.cells {w : World} {g n : Nat} {R : Nat → RN} {V : Nat → DV} (h : LvM w g n R V) {i : Nat} (hi : i < n) :
    w.cell? ⟨g, i * 3, none⟩ = some (.bool (R i).neg) ∧ w.cell? ⟨g, i * 3 + 1, none⟩ = some (.slice (R i).A (R i).n (R i).c) ∧ w.cell? ⟨g, i * 3 + 2, none⟩ = some (I (R i).den) := by
  have a := h.row.cell (i := i * 3) (by omega)
  have b := h.row.cell (i := i * 3 + 1) (by omega)
  have c := h.row.cell (i := i * 3 + 2) (by omega)
  unfold rcv at a b c
  rw [if_pos (by omega), show i * 3 / 3 = i by omega] at a
  rw [if_neg (by omega), if_pos (by omega), show (i * 3 + 1) / 3 = i by omega] at b
  rw [if_neg (by omega), if_neg (by omega), show (i * 3 + 2) / 3 = i by omega] at c
  exact ⟨a, b, c⟩
theorem LvM.frozen {w : World} {g n : Nat} {R : Nat → RN} {V : Nat → DV} (h : LvM w g n R V) (i : Nat) : w.frozen? ⟨g, i, none⟩ = false := h.row.frozen i
theorem LvM.ln {w : World} {g n : Nat} {R : Nat → RN} {V : Nat → DV} (h : LvM w g n R V) : Ln w (some ⟨g, 0, none⟩) n R V :=
  ⟨fun _ => ⟨g, 0, rfl, h.row.lt, fun i hi => by rw [Nat.zero_add]; exact h.cells hi⟩, h.el⟩
/-- The three stores that lay an element. -/
abbrev st3 (w : World) (g i : Nat) (r : RN) : World := ((w.setCell ⟨g, i * 3, none⟩ (.bool r.neg)).setCell ⟨g, i * 3 + 1, none⟩ (.slice r.A r.n r.c)).setCell ⟨g, i * 3 + 2, none⟩ (I r.den)
theorem st3_fr (w : World) (g i : Nat) (r : RN) : w.grownBy (st3 w g i r) (some g) := fr_trans (fr_trans (fr_set _ _ _ _) (fr_set _ _ _ _)) (fr_set _ _ _ _)
theorem st3_ext {W w : World} (g i : Nat) (r : RN) (e : Ext W w) (hg : W.heap.size ≤ g) : Ext W (st3 w g i r) := ext_fr e (st3_fr w g i r) hg
theorem LvM.put {w : World} {g n : Nat} {R : Nat → RN} {V : Nat → DV} (h : LvM w g n R V) (i : Nat) (r : RN) (d : DV) (c : Cn w r d) (hne : 0 < len d.m → ∀ a, r.A = some a → a.block ≠ g) : LvM (st3 w g i r) g n (putR R i r) (putD V i d) := by
  refine ⟨(((h.row.set (i * 3) _).set (i * 3 + 1) _).set (i * 3 + 2) _).congr fun j _ => ?_, fun j hj => ?_, fun j hj => ?_⟩
  · unfold rcv putR
    by_cases h2 : j = i * 3 + 2
    · subst h2
      rw [if_pos rfl, if_neg (by omega), if_neg (by omega), show (i * 3 + 2) / 3 = i by omega, if_pos rfl]
    · rw [if_neg h2]
      by_cases h1 : j = i * 3 + 1
      · subst h1
        rw [if_pos rfl, if_neg (by omega), if_pos (by omega), show (i * 3 + 1) / 3 = i by omega, if_pos rfl]
      · rw [if_neg h1]
        by_cases h0 : j = i * 3
        · subst h0
          rw [if_pos rfl, if_pos (by omega), show i * 3 / 3 = i by omega, if_pos rfl]
        · have hq : ¬ j / 3 = i := by omega
          rw [if_neg h0]; simp only [if_neg hq]
  · have a := (h.el j hj).fr (st3_fr w g i r) (h.ne j hj)
    unfold putR putD
    by_cases e : j = i
    · rw [if_pos e, if_pos e]; exact c.fr (st3_fr w g i r) hne
    · rw [if_neg e, if_neg e]; exact a
  · unfold putR putD
    by_cases e : j = i
    · rw [if_pos e, if_pos e]; exact hne
    · rw [if_neg e, if_neg e]; exact h.ne j hj
/-- What a function returns: a list of numbers in new memory. -/
def LvR (n : Nat) (V : Nat → DV) (w : World) (e : Ending) (w' : World) : Prop := ∃ g R, e = .returned (.slice (some ⟨g, 0, none⟩) n n) ∧ LvM w' g n R V ∧ w.heap.size ≤ g ∧ (∀ i, i < n → ∀ a, (R i).A = some a → w.heap.size ≤ a.block) ∧ Ext w w'

/-! ### Lists that are appended to -/
def ncs (R : Nat → RN) : Nat → List Value
  | 0 => []
  | i + 1 => ncs R i ++ nc1 (R i)
theorem nc1_len (r : RN) : (nc1 r).length = 3 := rfl
theorem ncs_len (R : Nat → RN) (i : Nat) : (ncs R i).length = i * 3 := by
  induction i with
  | zero => rfl
  | succ i ih => show (ncs R i ++ nc1 (R i)).length = _; rw [List.length_append, ih, nc1_len]; omega
theorem ncs_get {R : Nat → RN} {n i j : Nat} (hi : i < n) (hj : j < 3) : (ncs R n)[i * 3 + j]? = (nc1 (R i))[j]? := by
  induction n with
  | zero => omega
  | succ n ih =>
    show (ncs R n ++ nc1 (R n))[i * 3 + j]? = _
    by_cases e : i = n
    · subst e
      rw [List.getElem?_append_right (by rw [ncs_len]; omega), ncs_len]
      congr 1; omega
    · rw [List.getElem?_append_left (by rw [ncs_len]; omega)]; exact ih (by omega)
theorem ncs_congr {R R' : Nat → RN} {n : Nat} (h : ∀ i, i < n → R i = R' i) : ncs R n = ncs R' n := by
  induction n with
  | zero => rfl
  | succ n ih => show ncs R n ++ nc1 (R n) = ncs R' n ++ nc1 (R' n); rw [ih fun i hi => h i (by omega), h n (by omega)]
def OwN (w : World) (base : Nat) (A : Option Addr) (c : Nat) (R : Nat → RN) (n : Nat) : Prop := w.ownsRow base 24 3 (.slice A n c) n (ncs R n)
theorem OwN.nil (w : World) (base : Nat) (R : Nat → RN) : OwN w base none 0 R 0 := World.ownsRow_nil _ _ _ _
theorem OwN.lt {w : World} {base c n : Nat} {A : Option Addr} {R : Nat → RN} (h : OwN w base A c R n) : ∀ k, (Value.slice A n c).ownBlock = some k → base ≤ k ∧ k < w.heap.size := World.ownsRow.lt h
theorem OwN.ext {w w' : World} {base c n : Nat} {A : Option Addr} {R : Nat → RN} (h : OwN w base A c R n) (e : Ext w w') : OwN w' base A c R n :=
  World.ownsRow.kept h (ext_gr e) (by cases (Value.slice A n c).ownBlock <;> simp)
theorem OwN.off {w w' : World} {base c g n : Nat} {A : Option Addr} {R : Nat → RN} (h : OwN w base A c R n) (e : w.grownBy w' (some g)) (hg : g < base) : OwN w' base A c R n := by
  refine World.ownsRow.kept h e ?_
  cases hv : (Value.slice A n c).ownBlock with
  | none => simp
  | some k => right; have := (h.lt k hv).1; intro e; injection e with e; omega
theorem OwN.congr {w : World} {base c n : Nat} {A : Option Addr} {R R' : Nat → RN} (h : OwN w base A c R n) (e : ∀ i, i < n → R i = R' i) : OwN w base A c R' n := by
  unfold OwN at h ⊢; rw [← ncs_congr e]; exact h
theorem OwN.rn {w : World} {base c n : Nat} {A : Option Addr} {R : Nat → RN} (h : OwN w base A c R n) : Rn w A n R := fun h0 => by
  have h' := h
  obtain ⟨_, ⟨e, hz⟩ | ⟨g, cap, cur, e, _⟩⟩ := h'
  · omega
  · injection e with e1 e2 e3
    subst e1
    refine ⟨g, 0, rfl, (World.ownsRow.lt h g rfl).2, fun i hi => ?_⟩
    rw [Nat.zero_add]
    have hc : ∀ j, j < 3 → w.cell? ⟨g, i * 3 + j, none⟩ = (nc1 (R i))[j]? := fun j hj => by
      rw [World.ownsRow.cellAt h (i * 3 + j) (by omega)]; exact ncs_get hi hj
    exact ⟨hc 0 (by omega), hc 1 (by omega), hc 2 (by omega)⟩
theorem OwN.len0 {w : World} {base c n : Nat} {A : Option Addr} {R : Nat → RN} (h : OwN w base A c R n) : A = none → c = 0 := fun hA => by
  obtain ⟨_, ⟨e, _⟩ | ⟨g, cap, cur, e, _⟩⟩ := h
  · injection e
  · injection e with e1 e2 e3; rw [hA] at e1; cases e1
theorem OwN.blk {w : World} {base c n : Nat} {A : Option Addr} {R : Nat → RN} (h : OwN w base A c R n) : ∀ b o, A = some ⟨b, o, none⟩ → base ≤ b ∧ b < w.heap.size := fun b o hA => by
  have h' := h
  obtain ⟨_, ⟨e, _⟩ | ⟨g, cap, cur, e, _⟩⟩ := h'
  · injection e with e1; rw [hA] at e1; cases e1
  · injection e with e1 e2 e3
    rw [hA] at e1
    injection e1 with e1
    injection e1 with e1 e4
    subst e1; subst e4; subst hA
    exact World.ownsRow.lt h b rfl
theorem growN_ext {W w w' : World} {base c n : Nat} {A : Option Addr} {R : Nat → RN} (e : Ext W w) (h : OwN w base A c R n) (hb : W.heap.size ≤ base) (hg : w.grownBy w' (Value.slice A n c).ownBlock) : Ext W w' :=
  Below.grown e hg e.size (fun k hk => Nat.le_trans hb (h.lt k hk).1)
theorem appN {ops : Array Oper} {rest : List Oper} {o : Oper} {a : Act} {w : World} {Q : Exit → Act → World → Prop} (hgd : o.guard = none) (s x : Operand) (ho : o.op = .call { callee := .builtin .append, args := #[s, x], argTypes := #[62, 62] })
    (base : Nat) (A : Option Addr) (c : Nat) (R : Nat → RN) (n : Nat) (hs : a.eval s = .slice A n c) (hown : OwN w base A c R n) (ad : Addr) (cx : Nat) (hx : a.eval x = .slice (some ad) 1 cx) (hv : ∀ j u, (nc1 (R n))[j]? = some u → w.cell? (ad.add j) = some u)
    (hn : n ≤ 1099511627) (hbase : base ≤ w.heap.size)
    (h : ∀ g cap w', OwN w' base (some ⟨g, 0, none⟩) cap R (n + 1) → w.grownBy w' (Value.slice A n c).ownBlock → ((Value.slice A n c).ownBlock = some g ∨ g = w.heap.size) → g < w'.heap.size →
      wpList Tryz.prog ops Q rest (a.put o.dst (.slice (some ⟨g, 0, none⟩) (n + 1) cap)) w') : wpList Tryz.prog ops Q (o :: rest) a w := by
  obtain ⟨i, z, hi, hz, h1, hb, hzs⟩ := infoDy'
  exact wpList_append_lies w hgd s x _ ho base 24 i z 3 40 Tryz.underlying62 hi hz h1 hb (by rw [hzs]; rfl) (by omega) _ n _ hs hown ad 1 cx (nc1 (R n)) hx (nc1_len _) hv
    (by intro u hu; simp only [nc1, List.mem_cons, List.not_mem_nil, or_false] at hu; rcases hu with rfl | rfl | rfl <;> rfl) (by omega) (by unfold maxLen; omega) (by omega) hbase w.heap.size rfl h
end

end Go.Proofs.YtcdkkohklhmpgaaGreatDoor
