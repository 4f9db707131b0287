/- Curves: sort.Search, sort.SearchInts, the value as a fraction. -/
import Derived.Test.YtdcollchhcjaaaaCrvc
import Derived.Shelf.Abstract
namespace Go.Proofs.Ytdcollchhcjaaaa
open Go.RowKit

/-- A curve in memory. -/
structure Cur (w : World) (ba oa bb ob n : Nat) (X Y : Nat → Int) : Prop where
  la : ba < w.heap.size
  lb : bb < w.heap.size
  ca : ∀ i, i < n → w.cell? ⟨ba, oa + i, none⟩ = some (I (X i))
  cb : ∀ i, i < n → w.cell? ⟨bb, ob + i, none⟩ = some (I (Y i))
theorem Cur.ext {w w' : World} {ba oa bb ob n : Nat} {X Y : Nat → Int} (h : Cur w ba oa bb ob n X Y) (e : Ext w w') : Cur w' ba oa bb ob n X Y :=
  ⟨Nat.lt_of_lt_of_le h.la e.size, Nat.lt_of_lt_of_le h.lb e.size, fun i hi => (e.old.1 _ _ h.la).trans (h.ca i hi), fun i hi => (e.old.1 _ _ h.lb).trans (h.cb i hi)⟩
theorem Cur.ra {w : World} {ba oa bb ob n : Nat} {X Y : Nat → Int} (h : Cur w ba oa bb ob n X Y) : Ri w (some ⟨ba, oa, none⟩) n X := fun _ => ⟨ba, oa, rfl, h.la, h.ca⟩
theorem Cur.rb {w : World} {ba oa bb ob n : Nat} {X Y : Nat → Int} (h : Cur w ba oa bb ob n X Y) : Ri w (some ⟨bb, ob, none⟩) n Y := fun _ => ⟨bb, ob, rfl, h.lb, h.cb⟩
abbrev cw (ba oa c bb ob e n : Nat) : Value := .agg #[.slice (some ⟨ba, oa, none⟩) n c, .slice (some ⟨bb, ob, none⟩) n e]

set_option maxRecDepth 100000 in
set_option maxHeartbeats 1000000 in
theorem search_any (g : FuncId) (cb : Array Value) (n : Nat) (p : Nat → Bool) (w : World) (eg : ∀ args w, (callFunc g args).run Try.prog w = .ok (.enter g args) w) (hsz : n < 4611686018427387904)
    (hf0 : ∀ (i : Nat) (w' : World), i < n → Ext w w' → Calls Try.prog g (#[I i] ++ cb) w' fun e w'' => e = .returned (.bool (p i)) ∧ Ext w' w'')
    (hmono : ∀ a b, a ≤ b → b < n → p a = true → p b = true) :
    Calls Try.prog 38 #[I n, .func (.func g) #[] cb] w fun e w' => ∃ r : Nat, e = .returned (I r) ∧ r ≤ n ∧ (∀ t, t < r → p t = false) ∧ (∀ t, r ≤ t → t < n → p t = true) ∧ Ext w w' := by
  have HF := Lib.hid hf0; clear hf0
  have M := Lib.hid hmono; clear hmono
  go_enter Try.func38, Try.ntmps38
  go_wp2
  go_loopw [5, 6] (fun s t wr => Ext w wr ∧ ∃ lo hi : Nat, s = I lo ∧ t = I hi ∧ lo ≤ hi ∧ hi ≤ n ∧ Hid ((∀ t, t < lo → p t = false) ∧ (∀ t, hi ≤ t → t < n → p t = true))) (fun s t _ => (intOf t - intOf s).toNat)
  case atStart => exact ⟨Ext.refl _, 0, n, rfl, rfl, Nat.zero_le _, Nat.le_refl _, fun t ht => absurd ht (Nat.not_lt_zero _), fun t h1 h2 => by omega⟩
  case round =>
    obtain ⟨hb, lo, hi, rfl, rfl, hlh, hin, J⟩ := hrel
    by_cases hlt : lo < hi
    · have hc0 := HF.out ((lo + hi) / 2) _ (by omega) hb
      rw [show (((lo + hi) / 2 : Nat) : Int) = ((lo : Int) + (hi : Int)) / 2 by omega] at hc0
      have HC := Lib.hid hc0; clear hc0
      cases hp : p ((lo + hi) / 2) with
      | false =>
        have HC2 := HC.out
        rw [hp] at HC2
        have HC3 := Lib.hid HC2; clear HC2 HC
        have HP := Lib.hid hp; clear hp
        go_wp2_with (go_at_fn g; refine HC3.out.mono ?_; rintro e w1 ⟨rfl, hb1⟩; replace hb := Ext.trans hb hb1; clear hb1)
        go_roundw
        case measure => simp [intOf]; omega
        case rel =>
          have J2 : Hid ((∀ t, t < (lo + hi) / 2 + 1 → p t = false) ∧ (∀ t, hi ≤ t → t < n → p t = true)) := ⟨fun t ht => (by
            cases h : p t with
            | false => rfl
            | true => have := M.out t ((lo + hi) / 2) (by omega) (by omega) h; rw [HP.out] at this; cases this), J.out.2⟩
          exact ⟨(by repeat (first | exact Ext.refl _ | assumption | exact Ext.alloc _ _ | refine Ext.trans ?_ (by assumption) | refine Ext.trans ?_ (Ext.alloc _ _) | refine Ext.trans ?_ (Ext.drewN _ _) | refine Ext.trans ?_ (Ext.drew _))), (lo + hi) / 2 + 1, hi, by rw [show ((lo : Int) + (hi : Int)) / 2 + 1 = (((lo + hi) / 2 + 1 : Nat) : Int) by omega], rfl, by omega, hin, J2⟩
      | true =>
        have HC2 := HC.out
        rw [hp] at HC2
        have HC3 := Lib.hid HC2; clear HC2 HC
        have HP := Lib.hid hp; clear hp
        go_wp2_with (go_at_fn g; refine HC3.out.mono ?_; rintro e w1 ⟨rfl, hb1⟩; replace hb := Ext.trans hb hb1; clear hb1)
        go_roundw
        case measure => simp [intOf]; omega
        case rel =>
          have J2 : Hid ((∀ t, t < lo → p t = false) ∧ (∀ t, (lo + hi) / 2 ≤ t → t < n → p t = true)) := ⟨J.out.1, fun t ht htn => M.out ((lo + hi) / 2) t ht htn HP.out⟩
          exact ⟨(by repeat (first | exact Ext.refl _ | assumption | exact Ext.alloc _ _ | refine Ext.trans ?_ (by assumption) | refine Ext.trans ?_ (Ext.alloc _ _) | refine Ext.trans ?_ (Ext.drewN _ _) | refine Ext.trans ?_ (Ext.drew _))), lo, (lo + hi) / 2, rfl, by rw [show ((lo : Int) + (hi : Int)) / 2 = (((lo + hi) / 2 : Nat) : Int) by omega], by omega, by omega, J2⟩
    · obtain rfl : hi = lo := by omega
      go_wp2
      go_ret
      exact ⟨hi, rfl, hin, J.out.1, J.out.2, hb⟩

set_option maxRecDepth 100000 in
set_option maxHeartbeats 1000000 in
theorem searchClosure_any (ba bx blk off L cap : Nat) (f : Nat → Int) (x : Int) (i : Nat) (w : World) (hi : i < L)
    (ha : w.cell? ⟨ba, 0, none⟩ = some (.slice (some ⟨blk, off, none⟩) L cap)) (hx : w.cell? ⟨bx, 0, none⟩ = some (I x)) (hc : w.cell? ⟨blk, off + i, none⟩ = some (I (f i))) :
    Calls Try.prog 46 (#[I i] ++ #[.pointer (some ⟨ba, 0, none⟩), .pointer (some ⟨bx, 0, none⟩)]) w fun e w' => e = .returned (.bool (decide (x ≤ f i))) ∧ Ext w w' := by
  generalize f i = y at hc ⊢
  have hiz : (i : Int) < (L : Int) := by omega
  go_enter Try.func46, Try.ntmps46
  go_wp2
  try go_quiet (fail)
  try go_wp2
  go_ret
  exact ⟨rfl, (by repeat (first | exact Ext.refl _ | assumption | exact Ext.alloc _ _ | refine Ext.trans ?_ (by assumption) | refine Ext.trans ?_ (Ext.alloc _ _) | refine Ext.trans ?_ (Ext.drewN _ _) | refine Ext.trans ?_ (Ext.drew _)))⟩

set_option maxRecDepth 100000 in
set_option maxHeartbeats 1000000 in
theorem searchInts_any (blk off L cap : Nat) (f : Nat → Int) (x : Int) (w : World) (hblk : blk < w.heap.size) (hL : L ≤ 1000) (hc : ∀ i, i < L → w.cell? ⟨blk, off + i, none⟩ = some (I (f i)))
    (hs : ∀ a b, a ≤ b → b < L → f a ≤ f b) :
    Calls Try.prog 45 #[.slice (some ⟨blk, off, none⟩) L cap, I x] w fun e w' => ∃ r : Nat, e = .returned (I r) ∧ r ≤ L ∧ (∀ t, t < r → f t < x) ∧ (∀ t, r ≤ t → t < L → x ≤ f t) ∧ Ext w w' := by
  obtain ⟨W0, hW0⟩ : ∃ W0, W0 = (w.alloc (.cells #[.slice (some ⟨blk, off, none⟩) L cap] 22)).alloc (.cells #[I x] 3) := ⟨_, rfl⟩
  have hE : Ext w W0 := by rw [hW0]; exact (Ext.alloc _ _).trans (Ext.alloc _ _)
  have hz : W0.heap.size = w.heap.size + 1 + 1 := by rw [hW0]; simp
  have ca : W0.cell? ⟨w.heap.size, 0, none⟩ = some (.slice (some ⟨blk, off, none⟩) L cap) := by rw [hW0]; go_simp
  have cx : W0.cell? ⟨w.heap.size + 1, 0, none⟩ = some (I x) := by rw [hW0]; go_simp
  have cc : ∀ i, i < L → W0.cell? ⟨blk, off + i, none⟩ = some (I (f i)) := fun i hi => (hE.old.1 _ _ hblk).trans (hc i hi)
  have eg : ∀ args w, (callFunc 46 args).run Try.prog w = .ok (.enter 46 args) w := enters_of Try.func46 (by kernel_rfl) rfl
  have hS := search_any 46 #[.pointer (some ⟨w.heap.size, 0, none⟩), .pointer (some ⟨w.heap.size + 1, 0, none⟩)] L (fun i => decide (x ≤ f i)) W0 eg (by omega)
    (fun i w' hi he => searchClosure_any w.heap.size (w.heap.size + 1) blk off L cap f x i w' hi ((he.old.1 _ _ (by omega)).trans ca) ((he.old.1 _ _ (by omega)).trans cx) ((he.old.1 _ _ (by omega)).trans (cc i hi)))
    (fun a b hab hb h => by have := hs a b hab hb; simp at h ⊢; omega)
  have HS := Lib.hid hS; clear hS
  clear ca cx cc hc hs
  have HE := Lib.hid hE; clear hE
  go_enter Try.func45, Try.ntmps45
  go_wp2_with (go_at_call 38; rw [← hW0]; refine HS.out.mono ?_; rintro e w1 ⟨r, rfl, h1, h2, h3, hb1⟩; have H2 := Lib.hid h2; have H3 := Lib.hid h3; clear h2 h3)
  go_ret
  exact ⟨r, rfl, h1, fun t ht => by have := H2.out t ht; simpa using this, fun t ht hl => by have := H3.out t ht hl; simpa using this, HE.out.trans hb1⟩
end Go.Proofs.Ytdcollchhcjaaaa
