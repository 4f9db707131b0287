/- Programs of diagrams: they are accepted; what a run leaves (off any program). -/
import Derived.Test.YtkocmdpfknoiaaaGreatDoorKxl
import Derived.Test.YtkocmdpfknoiaaaGreatDoorKxh
import Derived.Test.YtkocmdpfknoiaaaGreatDoorKwm
namespace Go.Proofs.YtkocmdpfknoiaaaGreatDoor

/-! ### The program is accepted -/
structure CmG0 (D : Dia) (F : Nat → Int) : Prop where
  ok : OkD D
  sc : ∀ j, j < D.nb → 0 ≤ F j ∧ F j ≤ 30
  raw : rwsE D F = 0
  sh : ∀ x, x ∈ cdL D F → shE x = true
theorem getD_mem {α : Type} {L : List α} {i : Nat} {d : α} (h : i < L.length) : L.getD i d ∈ L := by
  have e : L.getD i d = L[i] := by simp [List.getD, List.getElem?_eq_getElem h]
  rw [e]; exact List.getElem_mem h
theorem mem_getD {α : Type} {L : List α} {x : α} (d : α) (h : x ∈ L) : ∃ i, i < L.length ∧ L.getD i d = x := by
  obtain ⟨i, hi, e⟩ := List.mem_iff_getElem.1 h
  exact ⟨i, hi, by simp [List.getD, List.getElem?_eq_getElem hi, e]⟩
theorem cmE_0 {D : Dia} {m : Nat} {F : Nat → Int} (h : cmE D m F = 0) : m = D.nb ∧ CmG0 D F := by
  unfold cmE at h
  by_cases h1 : chk D ≠ 0
  · rw [if_pos h1] at h; exact absurd h h1
  rw [if_neg h1] at h
  by_cases h2 : m ≠ D.nb
  · rw [if_pos h2] at h; omega
  rw [if_neg h2] at h
  by_cases h3 : allN m (fun i => scB (F i)) = false
  · rw [if_pos h3] at h; omega
  rw [if_neg h3] at h
  by_cases h4 : rwsE D F ≠ 0
  · rw [if_pos h4] at h; exact absurd h h4
  rw [if_neg h4] at h
  by_cases h5 : allN (cdN D F) (fun i => shE (cdX D F i)) = false
  · rw [if_pos h5] at h; omega
  have h3' : allN m (fun i => scB (F i)) = true := by simpa using h3
  have h5' : allN (cdN D F) (fun i => shE (cdX D F i)) = true := by simpa using h5
  refine ⟨by omega, chk_ok (by omega), fun j hj => scB_iff.1 (allN_iff.1 h3' j (by omega)), by omega, fun x hx => ?_⟩
  obtain ⟨i, hi, e⟩ := mem_getD ins0 hx
  have := allN_iff.1 h5' i hi
  unfold cdX at this
  rwa [e] at this
theorem mem_fmL {α : Type} {f : Nat → List α} {n : Nat} {x : α} : x ∈ fmL f n ↔ ∃ k, k < n ∧ x ∈ f k := by
  induction n with
  | zero => simp [fmL]
  | succ n ih =>
    show x ∈ fmL f n ++ f n ↔ _
    rw [List.mem_append, ih]
    constructor
    · rintro (⟨k, hk, h⟩ | h)
      · exact ⟨k, by omega, h⟩
      · exact ⟨n, by omega, h⟩
    · rintro ⟨k, hk, h⟩
      by_cases e : k = n
      · subst e; exact .inr h
      · exact .inl ⟨k, by omega, h⟩
/-- The blocks' instructions. -/
theorem mem_cdL {D : Dia} {F : Nat → Int} {x : Ins} : x ∈ cdL D F ↔ (∃ j, j < (ordL D).length ∧ x ∈ bkX D F ((ordL D).getD j 0)) ∨ (∃ k, k < ndl D ∧ x = m1X D F k) ∨ (∃ k, k < ndl D ∧ x = m2X D k) := by
  unfold cdL oxL m1L m2L
  rw [List.mem_append, List.mem_append, mem_fmL, mem_fmL, mem_fmL]
  simp only [List.mem_singleton, or_assoc]
theorem mem_bkX {D : Dia} {F : Nat → Int} {i : Nat} {x : Ins} : x ∈ bkX D F i ↔ x = fiX D F i ∨ (isC D i = true ∧ x = clX D i) := by
  unfold bkX
  split
  · rename_i h; simp [h]
  · rename_i h; simp [h]
theorem rwV_wd {b : Blk} {f : Int} {j : Nat} (h : rwE b f j = 0) : wdB (rwV b f j) = true := by
  unfold rwE at h; unfold rwV
  cases q : rawB (kpM b j) (kpX b j) f with
  | false => rw [(rawE_bad q).1] at h; omega
  | true =>
    cases r : wdB (rawV (kpM b j) (kpX b j) f) with
    | false => rw [(rawE_over q r).1] at h; omega
    | true => rw [(rawE_ok q r).2]; exact r
theorem raw_at {D : Dia} {F : Nat → Int} (g : CmG0 D F) {i j : Nat} (hi : i < D.nb) (hj : j < kpN (D.B i).k) : rwE (D.B i) (F i) j = 0 :=
  fstE_zero (f := rwE (D.B i) (F i)) (fstE_zero (f := fun i => bkR (D.B i) (F i)) g.raw i hi) j hj
theorem bn_lt {D : Dia} {i : Nat} (hi : i < D.nb) (h : isC D i = true) : bnC D i + 1 < D.nb + ndl D + 2 * ncl D := by
  have := (mkL_at hi h).2
  show D.nb + ndl D + 2 * cnt i (isC D) + 1 < _
  have e : (mkL D.nb (isC D)).length = ncl D := rfl
  omega
/-- What an instruction may be. -/
theorem insE_of {np nc : Nat} {x : Ins} (o : isO x.op = true) (d : ixB nc x.dst = true) (a : usA x.op = true → ixB (srcN np nc x.op) x.a = true) (b : usB x.op = true → ixB nc x.b = true) (s : shE x = true) (m : usI x.op = true → wdB x.im = true)
    (a0 : usA x.op = false → x.a = 0 ∧ x.sa = 0) (b0 : usB x.op = false → x.b = 0) (s0 : usT x.op = false → x.sb = 0) (m0 : usI x.op = false → x.im = 0) : insE np nc x = 0 := by
  unfold shE at s
  rw [Bool.and_eq_true] at s
  have h1 : ixE np nc x = false := by
    unfold ixE
    rw [d]
    cases ha : usA x.op with
    | false => cases hb : usB x.op with
      | false => rfl
      | true => rw [b hb]; rfl
    | true => rw [a ha]; cases hb : usB x.op with
      | false => rfl
      | true => rw [b hb]; rfl
  have h2 : rgE x = false := by
    unfold rgE
    rw [s.1, s.2]
    cases hm : usI x.op with
    | false => simp
    | true => rw [m hm]; simp
  have h3 : fmE x = false := by
    unfold fmE
    cases ha : usA x.op <;> cases hb : usB x.op <;> cases hs : usT x.op <;> cases hm : usI x.op <;> simp_all
  unfold insE
  rw [if_neg (by rw [o]; decide), if_neg (by rw [h1]; decide), if_neg (by rw [h2]; decide), if_neg (by rw [h3]; decide)]
theorem fi_dst (D : Dia) (F : Nat → Int) (i : Nat) : (fiX D F i).dst = i := by
  unfold fiX
  simp only []
  repeat' split
  all_goals rfl
theorem fi_ins {D : Dia} {F : Nat → Int} (g : CmG0 D F) {i : Nat} (hi : i < D.nb) {dst : Int} (hd : 0 ≤ dst ∧ dst < (D.nb + ndl D + 2 * ncl D : Nat)) (hs : shE { fiX D F i with dst := dst } = true) : insE D.ni (D.nb + ndl D + 2 * ncl D) { fiX D F i with dst := dst } = 0 := by
  have hk := g.ok.k0 i hi
  have har := g.ok.ar i hi
  have harg := g.ok.arg i hi
  have hsc := ok_sc (g.ok.be i hi)
  have hraw := fun j hj => rwV_wd (raw_at (j := j) g hi hj)
  have hbn := fun h => bn_lt (D := D) hi h
  have hdd : ixB ((D.nb + ndl D + 2 * ncl D : Nat) : Int) dst = true := ixB_iff.2 hd
  have hc : (D.B i).k = 0 ∨ (D.B i).k = 1 ∨ (D.B i).k = 2 ∨ (D.B i).k = 3 ∨ (D.B i).k = 4 ∨ (D.B i).k = 5 ∨ (D.B i).k = 6 ∨ (D.B i).k = 7 ∨ (D.B i).k = 8 ∨ (D.B i).k = 9 ∨ (D.B i).k = 10 ∨ (D.B i).k = 11 := by omega
  have hA : ∀ j, j < (D.B i).n → (D.B i).k ≠ 0 → ixB ((D.nb + ndl D + 2 * ncl D : Nat) : Int) ((D.B i).a j) = true := fun j hj h0 => ixB_iff.2 (by have := harg j hj; unfold cntB at this; rw [if_neg h0] at this; omega)
  have hS : ∀ j, j < (D.B i).n → (D.B i).k ≠ 0 → ∀ k : Int, k ≠ 0 → ixB ((srcN D.ni (D.nb + ndl D + 2 * ncl D) k : Nat) : Int) ((D.B i).a j) = true := fun j hj h0 k hk0 => by
    unfold srcN; rw [if_neg hk0]; exact hA j hj h0
  rcases hc with h | h | h | h | h | h | h | h | h | h | h | h
  · have hn : (D.B i).n = 1 := by
      rw [h] at har
      have : arity 0 = 1 := by decide
      omega
    have h0 := harg 0 (by omega)
    unfold cntB at h0; rw [if_pos h] at h0
    unfold fiX at hs ⊢; simp only [h, if_true] at hs ⊢
    exact insE_of rfl hdd (fun _ => ixB_iff.2 (by show 0 ≤ (D.B i).a 0 ∧ (D.B i).a 0 < ((srcN D.ni _ 0 : Nat) : Int); unfold srcN; simpa using h0)) (fun q => by cases q) hs (fun q => by cases q) (fun q => by cases q) (fun _ => rfl) (fun _ => rfl) (fun _ => rfl)
  all_goals
    unfold fiX at hs ⊢; simp [h] at hs ⊢
  · exact insE_of rfl hdd (fun q => by cases q) (fun q => by cases q) hs (fun _ => hraw 0 (by rw [h]; decide)) (fun _ => ⟨rfl, rfl⟩) (fun _ => rfl) (fun _ => rfl) (fun q => by cases q)
  · have hn : (D.B i).n = 1 := by
      rw [h] at har
      have : arity 2 = 1 := by decide
      omega
    exact insE_of rfl hdd (fun _ => hS 0 (by omega) (by omega) 2 (by omega)) (fun q => by cases q) hs (fun q => by cases q) (fun q => by cases q) (fun _ => rfl) (fun _ => rfl) (fun _ => rfl)
  · have hn : (D.B i).n = 2 := by
      rw [h] at har
      have : arity 3 = 2 := by decide
      omega
    exact insE_of rfl hdd (fun _ => hS 0 (by omega) (by omega) 3 (by omega)) (fun _ => hA 1 (by omega) (by omega)) hs (fun q => by cases q) (fun q => by cases q) (fun q => by cases q) (fun q => by cases q) (fun _ => rfl)
  · have hn : (D.B i).n = 2 := by
      rw [h] at har
      have : arity 4 = 2 := by decide
      omega
    exact insE_of rfl hdd (fun _ => hS 0 (by omega) (by omega) 4 (by omega)) (fun _ => hA 1 (by omega) (by omega)) hs (fun q => by cases q) (fun q => by cases q) (fun q => by cases q) (fun q => by cases q) (fun _ => rfl)
  · have hn : (D.B i).n = 1 := by
      rw [h] at har
      have : arity 5 = 1 := by decide
      omega
    exact insE_of rfl hdd (fun _ => hS 0 (by omega) (by omega) 5 (by omega)) (fun q => by cases q) hs (fun q => by cases q) (fun q => by cases q) (fun _ => rfl) (fun _ => rfl) (fun _ => rfl)
  · have hn : (D.B i).n = 1 := by
      rw [h] at har
      have : arity 6 = 1 := by decide
      omega
    exact insE_of rfl hdd (fun _ => hS 0 (by omega) (by omega) 6 (by omega)) (fun q => by cases q) hs (fun _ => wdB_iff.2 (by have := hsc.1 (by rw [h]; decide); show -2147483648 ≤ (D.B i).vn ∧ (D.B i).vn ≤ 2147483647; omega)) (fun q => by cases q) (fun _ => rfl) (fun _ => rfl) (fun q => by cases q)
  · have hn : (D.B i).n = 2 := by
      rw [h] at har
      have : arity 7 = 2 := by decide
      omega
    exact insE_of rfl hdd (fun _ => hS 0 (by omega) (by omega) 7 (by omega)) (fun _ => hA 1 (by omega) (by omega)) hs (fun q => by cases q) (fun q => by cases q) (fun q => by cases q) (fun _ => rfl) (fun _ => rfl)
  · have hn : (D.B i).n = 2 := by
      rw [h] at har
      have : arity 8 = 2 := by decide
      omega
    exact insE_of rfl hdd (fun _ => hS 0 (by omega) (by omega) 8 (by omega)) (fun _ => hA 1 (by omega) (by omega)) hs (fun q => by cases q) (fun q => by cases q) (fun q => by cases q) (fun q => by cases q) (fun _ => rfl)
  · have hn : (D.B i).n = 2 := by
      rw [h] at har
      have : arity 9 = 2 := by decide
      omega
    exact insE_of rfl hdd (fun _ => hS 0 (by omega) (by omega) 9 (by omega)) (fun _ => hA 1 (by omega) (by omega)) hs (fun q => by cases q) (fun q => by cases q) (fun q => by cases q) (fun q => by cases q) (fun _ => rfl)
  · have hn : (D.B i).n = 1 := by
      rw [h] at har
      have : arity 10 = 1 := by decide
      omega
    exact insE_of rfl hdd (fun _ => hS 0 (by omega) (by omega) 10 (by omega)) (fun q => by cases q) hs (fun q => by cases q) (fun q => by cases q) (fun _ => rfl) (fun _ => rfl) (fun _ => rfl)
  · have hn : (D.B i).n = 1 := by
      rw [h] at har
      have : arity 11 = 1 := by decide
      omega
    exact insE_of rfl hdd (fun _ => hS 0 (by omega) (by omega) 9 (by omega)) (fun _ => ixB_iff.2 (by have := hbn (by simp [isC, h]); show 0 ≤ ((bnC D i : Nat) : Int) ∧ ((bnC D i : Nat) : Int) < ((D.nb + ndl D + 2 * ncl D : Nat) : Int); omega)) hs (fun q => by cases q) (fun q => by cases q) (fun q => by cases q) (fun _ => rfl) (fun _ => rfl)
theorem ord_mem {D : Dia} (ok : OkD D) {i : Nat} (hi : i < D.nb) (h : isD D i = false) : i ∈ ordL D := by
  have hl := (ord_end D).1.len
  have hc := ok.cyc
  have hd : (delL D).length = cnt D.nb (isD D) := mkL_len _ _
  have := cnt_eq (n := D.nb) (p := isD D) (q := fun i => !inL (ordL D) i) (fun j _ hj => by
    cases q : inL (ordL D) j with
    | false => rfl
    | true => have := ((ord_end D).1.lt j q).2; rw [hj] at this; cases this) (by omega) i hi
  cases q : inL (ordL D) i with
  | true => unfold inL at q; simpa using q
  | false => have := this (by simp [q]); rw [h] at this; cases this
theorem prD_ok {D : Dia} {F : Nat → Int} (g : CmG0 D F) : chP (prD D F) = 0 := by
  have hnd := ndc_le D
  have hnb := g.ok.nb
  refine chP_of ⟨g.ok.ni, by show D.nb + ndl D + 2 * ncl D ≤ 192; omega, by show cdN D F ≤ 256; exact cdN_le D F hnb, g.ok.no, g.ok.pe, fun i hi => ?_, fun i hi => ?_, fun i hi => ?_⟩
  · show wdB (ceX D F i) = true
    have hi' : i < D.nb + ndl D + 2 * ncl D := hi
    unfold ceX
    by_cases h1 : i < D.nb
    · rw [if_pos h1]
      by_cases h2 : isD D i = true
      · rw [if_pos h2]; exact rwV_wd (raw_at g h1 (by rw [kp_d h2]; omega))
      · rw [if_neg h2]; rfl
    · rw [if_neg h1]
      by_cases h2 : i < D.nb + ndl D
      · rw [if_pos h2]; rfl
      · rw [if_neg h2]
        obtain ⟨c1, c2⟩ := cl_lt D (k := (i - D.nb - ndl D) / 2) (by omega)
        exact rwV_wd (raw_at g c1 (by rw [kp_c c2]; omega))
  · show insE D.ni (D.nb + ndl D + 2 * ncl D) (cdX D F i) = 0
    have hx : cdX D F i ∈ cdL D F := getD_mem hi
    have hsh := g.sh _ hx
    rcases mem_cdL.1 hx with ⟨j, hj, hb⟩ | ⟨k, hk, e⟩ | ⟨k, hk, e⟩
    · obtain ⟨o1, o2⟩ := ord_lt D hj
      generalize (ordL D).getD j 0 = b at *
      rcases mem_bkX.1 hb with e | ⟨hc, e⟩
      · rw [e] at hsh ⊢
        have hd := fi_dst D F b
        have := fi_ins g o1 (dst := (fiX D F b).dst) (by rw [hd]; omega) hsh
        exact this
      · rw [e]
        have hb2 := bn_lt o1 hc
        exact insE_of rfl (ixB_iff.2 (by show 0 ≤ ((b : Nat) : Int) ∧ ((b : Nat) : Int) < ((D.nb + ndl D + 2 * ncl D : Nat) : Int); omega)) (fun _ => ixB_iff.2 (by show 0 ≤ ((b : Nat) : Int) ∧ ((b : Nat) : Int) < ((D.nb + ndl D + 2 * ncl D : Nat) : Int); omega))
          (fun _ => ixB_iff.2 (by show 0 ≤ ((bnC D b : Nat) : Int) + 1 ∧ ((bnC D b : Nat) : Int) + 1 < ((D.nb + ndl D + 2 * ncl D : Nat) : Int); omega)) rfl (fun q => by cases q) (fun q => by cases q) (fun q => by cases q) (fun q => by cases q) (fun _ => rfl)
    · rw [e] at hsh ⊢
      exact fi_ins g (dl_lt D hk).1 (dst := (D.nb : Int) + k) (by omega) hsh
    · rw [e]
      have := (dl_lt D hk).1
      exact insE_of rfl (ixB_iff.2 (by show 0 ≤ ((dlA D k : Nat) : Int) ∧ ((dlA D k : Nat) : Int) < ((D.nb + ndl D + 2 * ncl D : Nat) : Int); omega)) (fun _ => ixB_iff.2 (by show 0 ≤ (D.nb : Int) + k ∧ (D.nb : Int) + k < ((D.nb + ndl D + 2 * ncl D : Nat) : Int); omega))
        (fun q => by cases q) rfl (fun q => by cases q) (fun q => by cases q) (fun _ => rfl) (fun _ => rfl) (fun _ => rfl)
  · exact ixB_iff.2 (by have := g.ok.out i hi; show 0 ≤ D.O i ∧ D.O i < ((D.nb + ndl D + 2 * ncl D : Nat) : Int); omega)
/-! ### The cells that are written -/
theorem wr_iff {D : Dia} {F : Nat → Int} (g : CmG0 D F) {i : Nat} : wrB (cdN D F) (cdX D F) i = true ↔ i < D.nb + ndl D := by
  rw [wrB_iff]
  constructor
  · rintro ⟨j, hj, e⟩
    have hx : cdX D F j ∈ cdL D F := getD_mem hj
    rcases mem_cdL.1 hx with ⟨j', hj', hb⟩ | ⟨k, hk, e'⟩ | ⟨k, hk, e'⟩
    · obtain ⟨o1, _⟩ := ord_lt D hj'
      rcases mem_bkX.1 hb with e' | ⟨_, e'⟩
      · rw [e', fi_dst] at e; omega
      · rw [e'] at e; have e2 : (((ordL D).getD j' 0 : Nat) : Int) = (i : Int) := e; omega
    · rw [e'] at e; have e2 : (D.nb : Int) + k = i := e; omega
    · rw [e'] at e; have e2 : ((dlA D k : Nat) : Int) = i := e; have := (dl_lt D hk).1; omega
  · intro hi
    have put : ∀ x, x ∈ cdL D F → x.dst = (i : Int) → ∃ j, j < cdN D F ∧ (cdX D F j).dst = (i : Int) := fun x hx e => by
      obtain ⟨j, hj, e'⟩ := mem_getD ins0 hx
      exact ⟨j, hj, by unfold cdX; rw [e']; exact e⟩
    by_cases h1 : i < D.nb
    · cases h2 : isD D i with
      | true =>
        obtain ⟨a, b⟩ := mkL_at h1 h2
        exact put (m2X D (cnt i (isD D))) (mem_cdL.2 (.inr (.inr ⟨_, b, rfl⟩))) (by show ((dlA D (cnt i (isD D)) : Nat) : Int) = i; rw [show dlA D (cnt i (isD D)) = i from a])
      | false =>
        obtain ⟨j, hj, e⟩ := mem_getD 0 (ord_mem g.ok h1 h2)
        exact put (fiX D F i) (mem_cdL.2 (.inl ⟨j, hj, by rw [e]; exact mem_bkX.2 (.inl rfl)⟩)) (fi_dst D F i)
    · exact put (m1X D F (i - D.nb)) (mem_cdL.2 (.inr (.inl ⟨_, by omega, rfl⟩))) (by show (D.nb : Int) + ((i - D.nb : Nat) : Int) = i; omega)
theorem mkL_ini {P : Nat → Bool} {m : Nat} (h : ∀ i, P i = true ↔ i < m) : ∀ n, m ≤ n → (mkL n P).length = m ∧ ∀ k, k < m → (mkL n P).getD k 0 = k := fun n hn => by
  have hc : ∀ n, cnt n P = min n m := fun n => by
    induction n with
    | zero => simp [cnt]
    | succ n ih =>
      show cnt n P + (if P n = true then 1 else 0) = _
      rw [ih]
      by_cases q : n < m
      · rw [if_pos ((h n).2 q)]; omega
      · rw [if_neg fun hh => q ((h n).1 hh)]; omega
  refine ⟨by rw [mkL_len, hc]; omega, fun k hk => ?_⟩
  have := (mkL_at (n := n) (i := k) (by omega) ((h k).2 hk)).1
  rwa [hc, show min k m = k by omega] at this
/-! ### Runs, instruction by instruction -/
def stv (IN : Nat → Int) (c : Nat → Int) (x : Ins) : Nat → Int := fun i => if i = x.dst.toNat then sat (reC x c IN) else c i
def runV (IN : Nat → Int) (c : Nat → Int) (L : List Ins) : Nat → Int := L.foldl (stv IN) c
theorem runV_app (IN : Nat → Int) (c : Nat → Int) (L M : List Ins) : runV IN c (L ++ M) = runV IN (runV IN c L) M := List.foldl_append
theorem runV_keep {IN : Nat → Int} {i : Nat} : ∀ {L : List Ins} {c : Nat → Int}, (∀ x, x ∈ L → i ≠ x.dst.toNat) → runV IN c L i = c i := by
  intro L
  induction L with
  | nil => intro c _; rfl
  | cons x L ih =>
    intro c h
    show runV IN (stv IN c x) L i = c i
    rw [ih fun y hy => h y (List.mem_cons_of_mem _ hy)]
    unfold stv; rw [if_neg (h x List.mem_cons_self)]
theorem runV_C (L : List Ins) (IN c : Nat → Int) : ∀ n, n ≤ L.length → (runC (fun i => L.getD i ins0) IN c n).1 = runV IN c (L.take n) := by
  intro n
  induction n with
  | zero => intro _; rfl
  | succ n ih =>
    intro hn
    rw [runC_step, List.take_add_one, runV_app, ← ih (by omega)]
    have e : L[n]? = some (L.getD n ins0) := by simp [List.getD, List.getElem?_eq_getElem (show n < L.length by omega)]
    rw [e]; rfl
theorem run_cd (D : Dia) (F IN c : Nat → Int) : (runC (cdX D F) IN c (cdN D F)).1 = runV IN c (cdL D F) := by
  have := runV_C (cdL D F) IN c (cdL D F).length (Nat.le_refl _)
  rw [List.take_length] at this
  exact this
theorem shC_0 {x : Int} (h : wdB x = true) : shC x 0 = x ∧ sat x = x := by
  have := wdB_iff.1 h
  constructor
  · unfold shC; rw [if_neg (by omega), kcl_id (by omega) (by omega)]; simp
  · exact kcl_id (by omega) (by omega)
theorem dl_inj {D : Dia} {j k : Nat} (hj : j < ndl D) (hk : k < ndl D) (h : dlA D j = dlA D k) : j = k := by
  have a : cnt (dlA D j) (isD D) = j := mk_cnt hj
  have b : cnt (dlA D k) (isD D) = k := mk_cnt hk
  rw [← a, ← b, h]
/-- The last moves: each delay gets its next value. -/
theorem run_m2 {D : Dia} {IN s : Nat → Int} (hw : ∀ i, i < D.nb + ndl D → wdB (s i) = true) : ∀ k, k ≤ ndl D → (∀ j, j < k → runV IN s (m2L D k) (dlA D j) = s (D.nb + j)) ∧ ∀ i, (∀ j, j < k → i ≠ dlA D j) → runV IN s (m2L D k) i = s i := by
  intro k
  induction k with
  | zero => intro _; exact ⟨fun j hj => by omega, fun i _ => rfl⟩
  | succ k ih =>
    intro hk
    obtain ⟨h1, h2⟩ := ih (by omega)
    rw [m2L_s, runV_app]
    generalize hc : runV IN s (m2L D k) = c at *
    have e0 : c (D.nb + k) = s (D.nb + k) := h2 _ fun j hj => by have := (dl_lt D (show j < ndl D by omega)).1; omega
    have e : ∀ i, runV IN c [m2X D k] i = if i = dlA D k then s (D.nb + k) else c i := fun i => by
      show (if i = ((dlA D k : Nat) : Int).toNat then sat (reC (m2X D k) c IN) else c i) = _
      rw [Int.toNat_natCast]
      by_cases q : i = dlA D k
      · rw [if_pos q, if_pos q]
        have er : reC (m2X D k) c IN = shC (c ((D.nb : Int) + k).toNat) 0 := rfl
        rw [er, show ((D.nb : Int) + k).toNat = D.nb + k by omega, e0]
        obtain ⟨a, b⟩ := shC_0 (hw (D.nb + k) (by omega))
        rw [a, b]
      · rw [if_neg q, if_neg q]
    constructor
    · intro j hj
      rw [e]
      by_cases q : j = k
      · subst q; rw [if_pos rfl]
      · rw [if_neg fun hh => q (dl_inj (by omega) (by omega) hh)]; exact h1 j (by omega)
    · intro i hi
      rw [e, if_neg (hi k (by omega))]
      exact h2 i fun j hj => hi j (by omega)
theorem runV_wd {IN c : Nat → Int} {nc : Nat} (h : ∀ i, i < nc → wdB (c i) = true) (L : List Ins) : ∀ i, i < nc → wdB (runV IN c L i) = true := by
  induction L generalizing c with
  | nil => exact h
  | cons x L ih =>
    refine ih (c := stv IN c x) fun i hi => ?_
    unfold stv
    split
    · exact sat_wd _
    · exact h i hi
/-- Behind a run. -/
theorem run_end {D : Dia} {F IN c : Nat → Int} (g : CmG0 D F) (hw : ∀ i, i < D.nb + ndl D + 2 * ncl D → wdB (c i) = true) :
    (∀ k, k < ndl D → runV IN c (cdL D F) (dlA D k) = runV IN c (cdL D F) (D.nb + k)) ∧ ∀ i, D.nb + ndl D ≤ i → runV IN c (cdL D F) i = c i := by
  constructor
  · intro k hk
    unfold cdL
    rw [runV_app]
    have hs := runV_wd (IN := IN) hw (oxL D F (ordL D).length ++ m1L D F (ndl D))
    obtain ⟨h1, h2⟩ := run_m2 (D := D) (IN := IN) (s := runV IN c (oxL D F (ordL D).length ++ m1L D F (ndl D))) (fun i hi => hs i (by omega)) (ndl D) (Nat.le_refl _)
    rw [h1 k hk, h2 (D.nb + k) fun j hj => by have := (dl_lt D hj).1; omega]
  · intro i hi
    refine runV_keep fun x hx => ?_
    obtain ⟨j, hj, e⟩ := mem_getD ins0 hx
    have hd : 0 ≤ x.dst := by
      rcases mem_cdL.1 hx with ⟨j', hj', hb⟩ | ⟨k, hk, e'⟩ | ⟨k, hk, e'⟩
      · rcases mem_bkX.1 hb with e' | ⟨_, e'⟩
        · rw [e', fi_dst]; omega
        · rw [e']; show 0 ≤ (((ordL D).getD j' 0 : Nat) : Int); omega
      · rw [e']; show 0 ≤ (D.nb : Int) + k; omega
      · rw [e']; show 0 ≤ ((dlA D k : Nat) : Int); omega
    intro q
    have := (wr_iff g (i := i)).1 (wrB_iff.2 ⟨j, hj, by unfold cdX; rw [e]; omega⟩)
    omega
end Go.Proofs.YtkocmdpfknoiaaaGreatDoor
