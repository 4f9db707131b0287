/- Diagrams: renumbered; the diagram that is pruned. -/
import Derived.Test.YtcdkkohklhmpgaaGreatDoorDhmp
import Derived.Test.YtcdkkohklhmpgaaGreatDoorDhej
import Derived.Test.YtcdkkohklhmpgaaGreatDoorDgq
import Derived.Deep.DrawnRows
namespace Go.Proofs.YtcdkkohklhmpgaaGreatDoor

/-! ### Dhq -/
section
open Go Go.RowKit

structure RnM (W w : World) (g n : Nat) (F : Nat → Int) : Prop where
  ext : Ext W w
  old : W.heap.size ≤ g
  row : w.rowIs g 3 n (fun i => I (F i))
theorem RnM.to {W w w' : World} {g n : Nat} {F : Nat → Int} (h : RnM W w g n F) (e : Ext w w') : RnM W w' g n F := ⟨h.ext.trans e, h.old, h.row.ext e⟩
theorem RnM.putv {W w : World} {g n : Nat} {F F' : Nat → Int} (h : RnM W w g n F) (x : Nat) (v : Int) (hF : ∀ i, F' i = if i = x then v else F i) : RnM W (w.setCell ⟨g, x, none⟩ (I v)) g n F' :=
  ⟨h.ext.set h.old _, h.old, (h.row.set x (I v)).congr fun i _ => by rw [hF i]; by_cases q : i = x <;> simp [q]⟩
theorem RnM.ri {W w : World} {g n : Nat} {F : Nat → Int} (h : RnM W w g n F) : Ri w (some ⟨g, 0, none⟩) n F := fun hn => ⟨g, 0, rfl, h.row.lt, fun i hi => by rw [Nat.zero_add]; exact h.row.cell hi⟩
/-- The places of the marked blocks. -/
def rk (P : Nat → Bool) (f : Nat → Int) : Nat → Int := fun i => (cnt (f i).toNat P : Nat)
def rkJ (P : Nat → Bool) (f : Nat → Int) (j : Nat) : Nat → Int := fun i => if i < j then rk P f i else 0
def RnP (n : Nat) (F : Nat → Int) (w : World) (e : Ending) (w' : World) : Prop := ∃ g, e = .returned (.slice (some ⟨g, 0, none⟩) n n) ∧ w.heap.size ≤ g ∧ Ri w' (some ⟨g, 0, none⟩) n F ∧ g < w'.heap.size ∧ Ext w w'
set_option maxRecDepth 100000 in
set_option maxHeartbeats 1000000 in
theorem renumbered_any {w : World} {A AK : Option Addr} {n c ck nb : Nat} {f : Nat → Int} {P : Nat → Bool} (r : Ri w A n f) (hn : n ≤ 1000) (rK : Rl w AK ck (mkL nb P)) (hnb : nb ≤ 1000) (hf : ∀ i, i < n → 0 ≤ f i ∧ f i ≤ nb) :
    Calls Tryz.prog 113 #[.slice A n c, .slice AK (mkL nb P).length ck] w (RnP n (rk P f) w) := by
  have hmk := run_make_row' 46 3 (I 0) 8 Tryz.underlying46 infoI rfl .i64 .i64 n (by omega) (by omega)
  obtain ⟨g, hg⟩ : ∃ g, w.heap.size = g := ⟨_, rfl⟩
  have HM0 : Hid (RnM w (w.alloc (.cells (madeCells #[I 0] n) 3)) g n (rkJ P f 0)) := ⟨Ext.alloc _ _, by omega, (rowIs_made' w (I 0) n 3 hg.symm).congr fun i _ => rfl⟩
  have R := Lib.hid r
  have HB : Hid (∀ w' (x : Nat), Ext w w' → x ≤ nb → Calls Tryz.prog 185 #[.slice AK (mkL nb P).length ck, I x] w' fun e w'' => (∃ b, e = .returned (.tuple #[I (cnt x P : Nat), .bool b])) ∧ Ext w' w'') := fun w' x e hx => bs_any (rK.ext e) hnb x hx
  have HF := Lib.hid hf
  have hlit : (0 : Int) ≤ (n : Int) := by omega
  clear r rK hf
  generalize (mkL nb P).length = nk at *
  go_enter Tryz.func113, Tryz.ntmps113
  go_wp2_with fail
  (try rw [hg])
  clear hmk
  have HG := Lib.hid hg
  go_loopw [13] (fun s wr => ∃ j : Nat, j ≤ n ∧ s = I j ∧ Hid (RnM w wr g n (rkJ P f j))) (fun s _ => n - (intOf s).toNat)
  case atStart => exact ⟨0, Nat.zero_le _, rfl, HM0⟩
  case round =>
    clear HM0
    obtain ⟨j, hj, rfl, H⟩ := hrel
    by_cases hlt : j < n
    · obtain ⟨b, o, ha, hb, hc⟩ := R.out.ext H.out.ext (by omega)
      have xa := hc j hlt
      obtain ⟨h0, h1⟩ := HF.out j hlt
      have hfe : f j = ((f j).toNat : Int) := by omega
      have HBJ : Hid (∀ w', Ext wr w' → Calls Tryz.prog 185 #[.slice AK nk ck, I ((f j).toNat : Nat)] w' fun e w'' => (∃ b, e = .returned (.tuple #[I (cnt (f j).toNat P : Nat), .bool b])) ∧ Ext w' w'') := fun w' e => HB.out w' _ (H.out.ext.trans e) (by omega)
      have HRK : Hid (∀ i, rkJ P f (j + 1) i = if i = j then ((cnt (f j).toNat P : Nat) : Int) else rkJ P f j i) := fun i => by
        unfold rkJ rk
        by_cases e : i = j
        · subst e; rw [if_pos (by omega), if_pos rfl]
        · rw [if_neg e]
          by_cases e2 : i < j
          · rw [if_pos e2, if_pos (by omega)]
          · rw [if_neg e2, if_neg (by omega)]
      rw [hfe] at xa
      have hlt' : (j : Int) < (n : Int) := by omega
      have hgl := H.out.row.lt
      clear hc h0 h1 hfe
      generalize (f j).toNat = x at *
      generalize cnt x P = cx at *
      go_wp2_with (go_at_call 185; (with_reducible refine (HBJ.out _ (Ext.refl _)).mono ?_); rintro e1 w1 ⟨⟨b1, rfl⟩, h1⟩; have hcell := (H.out.to h1).row.cell hlt; have hfz := (H.out.to h1).row.frozen j; have HP := Lib.hid ((H.out.to h1).putv j _ HRK.out); clear h1)
      (try rw [← ha])
      go_roundw
      case rel => exact ⟨j + 1, by omega, by go_num, HP⟩
      case measure => simp [intOf]; omega
    · obtain rfl : j = n := by omega
      have hz := H.out.ext.size
      go_wp2_with fail
      go_ret
      exact ⟨g, rfl, H.out.old, H.out.ri.congr fun i hi => if_pos hi, H.out.row.lt, H.out.ext⟩

/-- A block of the pruned diagram; the pruned diagram (P: what is kept). -/
def pbk (D : Dia) (P : Nat → Bool) (i : Nat) : Blk := if (D.B i).k = 0 then D.B i else { D.B i with a := rk P (D.B i).a }
def prD (D : Dia) (P : Nat → Bool) : Dia := { D with nb := (mkL D.nb P).length, B := fun k => pbk D P ((mkL D.nb P).getD k 0), O := rk P D.O }
theorem pbk_k (D : Dia) (P : Nat → Bool) (i : Nat) : (pbk D P i).k = (D.B i).k ∧ (pbk D P i).n = (D.B i).n ∧ (pbk D P i).vn = (D.B i).vn ∧ (pbk D P i).ve = (D.B i).ve ∧ (pbk D P i).un = (D.B i).un ∧ (pbk D P i).ue = (D.B i).ue := by
  unfold pbk; split <;> exact ⟨rfl, rfl, rfl, rfl, rfl, rfl⟩
/-- The kept blocks: those that an output needs over ticks. -/
noncomputable def keepP (D : Dia) : Nat → Bool := ovrR D ((List.range D.no).map fun j => (D.O j).toNat)
/-- The pruned diagram's blocks, while they are listed: W5 is the world where the listing began (its blocks but the box go are as they were), W the one before. -/
structure PrM (W W5 w : World) (go : Nat) (D' : Dia) (AI : Option Addr) (cI : Nat) (AO : Option Addr) (cO : Nat) (AA : Nat → Option Addr) (cA : Nat → Nat) (A : Option Addr) (c i : Nat) : Prop where
  ext : Ext W w
  old : W.heap.size ≤ go
  lt : go < W5.heap.size
  sz : W5.heap.size ≤ w.heap.size
  fr : ∀ k, k < W5.heap.size → k ≠ go → w.heap[k]? = W5.heap[k]?
  c0 : w.cell? ⟨go, 0, none⟩ = some (.slice AI D'.ni cI)
  c1 : w.cell? ⟨go, 1, none⟩ = some (.slice A i c)
  c2 : w.cell? ⟨go, 2, none⟩ = some (.slice AO D'.no cO)
  fz : w.frozen? ⟨go, 1, none⟩ = false
  own : OwB w W5.heap.size A c D' ⟨none, 0, none, 0, none, 0, AA, cA⟩ i
  arg : ∀ k, k < i → Ri w (AA k) (D'.B k).n (D'.B k).a ∧ (AA k = none → cA k = 0) ∧ ∀ b o, AA k = some ⟨b, o, none⟩ → some b ≠ (Value.slice A i c).ownBlock ∧ W5.heap.size ≤ b ∧ b < w.heap.size
theorem bcs_congr {D : Dia} {p q : Pl} {n : Nat} (h : ∀ k, k < n → p.AA k = q.AA k ∧ p.cA k = q.cA k) : bcs D p n = bcs D q n := by
  induction n with
  | zero => rfl
  | succ n ih =>
    show bcs D p n ++ bc1 D p n = bcs D q n ++ bc1 D q n
    rw [ih fun k hk => h k (by omega)]
    unfold bc1
    rw [(h n (by omega)).1, (h n (by omega)).2]
theorem Ri.blk {w w' : World} {A : Option Addr} {n : Nat} {f : Nat → Int} (h : Ri w A n f) (hb : ∀ b o, A = some ⟨b, o, none⟩ → b < w.heap.size → w'.heap[b]? = w.heap[b]?) (hs : w.heap.size ≤ w'.heap.size) : Ri w' A n f := fun hn => by
  obtain ⟨b, o, e, hlt, hc⟩ := h hn
  refine ⟨b, o, e, Nat.lt_of_lt_of_le hlt hs, fun i hi => ?_⟩
  rw [← hc i hi]; exact World.cell?_of_block (a := ⟨b, o + i, none⟩) (hb b o e hlt)
theorem PrM.step {W W5 w wb w' : World} {go g cap : Nat} {D' : Dia} {AI : Option Addr} {cI : Nat} {AO : Option Addr} {cO : Nat} {AA : Nat → Option Addr} {cA : Nat → Nat} {A : Option Addr} {c i : Nat}
    (h : PrM W W5 w go D' AI cI AO cO AA cA A c i) (e : Ext w wb) (Ai : Option Addr) (ci : Nat)
    (o : OwB w' W5.heap.size (some ⟨g, 0, none⟩) cap D' ⟨none, 0, none, 0, none, 0, (fun k => if k = i then Ai else AA k), (fun k => if k = i then ci else cA k)⟩ (i + 1))
    (hg : wb.grownBy w' (Value.slice A i c).ownBlock) (hat : (Value.slice A i c).ownBlock = some g ∨ g = wb.heap.size)
    (ra : Ri wb Ai (D'.B i).n (D'.B i).a) (r0 : Ai = none → ci = 0) (rb : ∀ b o, Ai = some ⟨b, o, none⟩ → w.heap.size ≤ b ∧ b < wb.heap.size) :
    PrM W W5 (w'.setCell ⟨go, 1, none⟩ (.slice (some ⟨g, 0, none⟩) (i + 1) cap)) go D' AI cI AO cO (fun k => if k = i then Ai else AA k) (fun k => if k = i then ci else cA k) (some ⟨g, 0, none⟩) cap (i + 1) ∧
      w'.frozen? ⟨go, 1, none⟩ = false ∧ ∀ j v, w.cell? ⟨go, j, none⟩ = some v → w'.cell? ⟨go, j, none⟩ = some v := by
  have hlt := h.lt
  have hsz := h.sz
  have hesz := e.size
  have hgsz := hg.size
  have hol : ∀ k, (Value.slice A i c).ownBlock = some k → W5.heap.size ≤ k ∧ k < w.heap.size := fun k hk => h.own.lt k hk
  have hne : ∀ k, k < W5.heap.size → some k ≠ (Value.slice A i c).ownBlock := fun k hk q => by have := hol k q.symm; omega
  have hb : ∀ k, k < w.heap.size → some k ≠ (Value.slice A i c).ownBlock → w'.heap[k]? = w.heap[k]? := fun k hk q => (hg.block k (by omega) q).trans (e.block k hk)
  have hgo := hb go (by omega) (hne go hlt)
  have hset : ∀ k, k ≠ go → (w'.setCell ⟨go, 1, none⟩ (.slice (some ⟨g, 0, none⟩) (i + 1) cap)).heap[k]? = w'.heap[k]? := fun k hk => Below.heap_setCell _ _ _ k (fun q => hk q)
  have hss : (w'.setCell ⟨go, 1, none⟩ (.slice (some ⟨g, 0, none⟩) (i + 1) cap)).heap.size = w'.heap.size := by simp
  have hcell : ∀ j v, w.cell? ⟨go, j, none⟩ = some v → w'.cell? ⟨go, j, none⟩ = some v := fun j v hv => by
    rw [← hv]; exact World.cell?_of_block (a := ⟨go, j, none⟩) hgo
  have hfz : w'.frozen? ⟨go, 1, none⟩ = false := by rw [← h.fz]; exact World.frozen?_of_block (a := ⟨go, 1, none⟩) hgo
  have ext' : Ext W w' := growB_ext (h.ext.trans e) (h.own.ext e) (by have := h.old; omega) hg
  refine ⟨⟨ext'.set (show W.heap.size ≤ go from h.old) _, h.old, hlt, by rw [hss]; omega, fun k hk hk2 => ?_, ?_, World.cell?_setCell_same _ _ _ (hcell 1 _ h.c1), ?_, by rw [World.frozen?_setCell]; exact hfz, o.off (set_gr _ _ _ _) hlt, fun k hk => ?_⟩, hfz, hcell⟩
  · rw [hset k hk2, hb k (by omega) (hne k hk)]; exact h.fr k hk hk2
  · rw [World.cell?_setCell_other _ _ _ _ (by intro q; injection q with q1 q2; omega)]; exact hcell 0 _ h.c0
  · rw [World.cell?_setCell_other _ _ _ _ (by intro q; injection q with q1 q2; omega)]; exact hcell 2 _ h.c2
  · have hown : (Value.slice (some ⟨g, 0, none⟩) (i + 1) cap).ownBlock = some g := rfl
    rw [hown, hss]
    by_cases e1 : k = i
    · subst e1
      rw [if_pos rfl, if_pos rfl]
      refine ⟨ra.blk (fun b o q hlt2 => ?_) (by rw [hss]; exact hgsz), r0, fun b o q => ?_⟩
      · have := rb b o q
        rw [hset b (by omega)]
        exact hg.block b hlt2 (fun q2 => by have := hol b q2.symm; omega)
      · have := rb b o q
        refine ⟨fun q2 => ?_, by omega, by omega⟩
        injection q2 with q2
        rcases hat with hat | hat
        · have := hol g hat; omega
        · omega
    · rw [if_neg e1, if_neg e1]
      obtain ⟨r1, r2, r3⟩ := h.arg k (by omega)
      refine ⟨r1.blk (fun b o q hlt2 => ?_) (by rw [hss]; omega), r2, fun b o q => ?_⟩
      · obtain ⟨q1, q2, q3⟩ := r3 b o q
        rw [hset b (by omega)]
        exact hb b hlt2 q1
      · obtain ⟨q1, q2, q3⟩ := r3 b o q
        refine ⟨fun q4 => ?_, q2, by omega⟩
        injection q4 with q4
        rcases hat with hat | hat
        · rw [q4, hat] at q1; exact q1 rfl
        · omega
theorem PrM.dm {W W5 w : World} {go : Nat} {D' : Dia} {AI : Option Addr} {cI : Nat} {AO : Option Addr} {cO : Nat} {AA : Nat → Option Addr} {cA : Nat → Nat} {A : Option Addr} {c : Nat}
    (h : PrM W W5 w go D' AI cI AO cO AA cA A c D'.nb) (po : PoA W5 AI D') (nI : AI = none → cI = 0) (bI : ∀ b o, AI = some ⟨b, o, none⟩ → b ≠ go) (ro : Ri W5 AO D'.no D'.O) (nO : AO = none → cO = 0) (bO : ∀ b o, AO = some ⟨b, o, none⟩ → b ≠ go)
    (li : D'.ni ≤ maxLen) (lb : D'.nb ≤ maxLen) (lo : D'.no ≤ maxLen) (la : ∀ k, k < D'.nb → (D'.B k).n ≤ maxLen) : Dm w D' ⟨AI, cI, A, c, AO, cO, AA, cA⟩ where
  ports := fun hn => by
    obtain ⟨b, o, e, hb, hc⟩ := po hn
    have hbl := h.fr b hb (bI b o e)
    refine ⟨b, o, e, Nat.lt_of_lt_of_le hb h.sz, fun i hi => ?_⟩
    obtain ⟨x0, x1, x2⟩ := hc i hi
    exact ⟨(World.cell?_of_block (a := ⟨b, _, none⟩) hbl).trans x0, (World.cell?_of_block (a := ⟨b, _, none⟩) hbl).trans x1, (World.cell?_of_block (a := ⟨b, _, none⟩) hbl).trans x2⟩
  blocks := fun h0 => by
    obtain ⟨g, hA, hg, hc⟩ := h.own.at_ h0
    refine ⟨g, 0, hA, hg, fun i hi => ?_⟩
    rw [Nat.zero_add]
    exact ⟨hc i 0 hi (by omega), hc i 1 hi (by omega), hc i 2 hi (by omega), hc i 3 hi (by omega), hc i 4 hi (by omega), hc i 5 hi (by omega)⟩
  args := fun i hi => ⟨(h.arg i hi).1, la i hi⟩
  outs := ro.blk (fun b o e hb => h.fr b hb (bO b o e)) h.sz
  li := li
  lb := lb
  lo := lo
  nA := fun i hi => (h.arg i hi).2.1
  nO := nO
  nI := nI
end

/-! ### Dhr -/
section
open Go Go.RowKit
attribute [local go_sem] Go.wp_at_zero Go.wp_at_succ

theorem one_newd' {w w1 : World} {v0 v1 v2 : Value} {t : TypeId} (hx : Ext (w.alloc (.cells #[v0, v1, v2] t)).drew w1) : Bx w1 w.heap.size v0 v1 v2 := (Bx.new w v0 v1 v2 t).ext ((Ext.drew _).trans hx)
theorem one_new' {w w1 : World} {v0 v1 v2 : Value} {t : TypeId} (hx : Ext (w.alloc (.cells #[v0, v1, v2] t)) w1) : Bx w1 w.heap.size v0 v1 v2 := (Bx.new w v0 v1 v2 t).ext hx
/-- The box of the pruned diagram, before its blocks are listed. -/
structure PrS (W w : World) (go gO : Nat) (AI : Option Addr) (cI : Nat) (D : Dia) (F : Nat → Int) : Prop where
  ext : Ext W w
  old : W.heap.size ≤ go
  lt : go < w.heap.size
  c0 : w.cell? ⟨go, 0, none⟩ = some (.slice AI D.ni cI)
  c1 : w.cell? ⟨go, 1, none⟩ = some (.slice none 0 0)
  c2 : w.cell? ⟨go, 2, none⟩ = some (.slice (some ⟨gO, 0, none⟩) D.no D.no)
  fz : w.frozen? ⟨go, 1, none⟩ = false
  po : PoA w AI D
  nI : AI = none → cI = 0
  bI : ∀ b o, AI = some ⟨b, o, none⟩ → b ≠ go
  ro : Ri w (some ⟨gO, 0, none⟩) D.no F
  bO : gO ≠ go
  oI : ∀ b o, AI = some ⟨b, o, none⟩ → W.heap.size ≤ b
  oO : W.heap.size ≤ gO
theorem PoA.blk {w w' : World} {A : Option Addr} {D : Dia} (h : PoA w A D) (hb : ∀ b o, A = some ⟨b, o, none⟩ → b < w.heap.size → w'.heap[b]? = w.heap[b]?) (hs : w.heap.size ≤ w'.heap.size) : PoA w' A D := fun hn => by
  obtain ⟨b, o, e, hlt, hc⟩ := h hn
  have hbl := hb b o e hlt
  refine ⟨b, o, e, Nat.lt_of_lt_of_le hlt hs, fun i hi => ?_⟩
  obtain ⟨x0, x1, x2⟩ := hc i hi
  exact ⟨(World.cell?_of_block (a := ⟨b, _, none⟩) hbl).trans x0, (World.cell?_of_block (a := ⟨b, _, none⟩) hbl).trans x1, (World.cell?_of_block (a := ⟨b, _, none⟩) hbl).trans x2⟩
theorem prS_set {W w4 : World} {g gO : Nat} {AI : Option Addr} {cI : Nat} {D : Dia} {F : Nat → Int} {a b c : Value} (v : Bx w4 g a b c) (e : Ext W w4) (hg : W.heap.size ≤ g) (po : PoA w4 AI D) (nI : AI = none → cI = 0) (bI : ∀ b o, AI = some ⟨b, o, none⟩ → b ≠ g)
    (ro : Ri w4 (some ⟨gO, 0, none⟩) D.no F) (bO : gO ≠ g) (oI : ∀ b o, AI = some ⟨b, o, none⟩ → W.heap.size ≤ b) (oO : W.heap.size ≤ gO) : PrS W (((w4.setCell ⟨g, 0, none⟩ (.slice AI D.ni cI)).setCell ⟨g, 1, none⟩ (.slice none 0 0)).setCell ⟨g, 2, none⟩ (.slice (some ⟨gO, 0, none⟩) D.no D.no)) g gO AI cI D F := by
  obtain ⟨⟨s0, s1, s2⟩, sf⟩ := v.set3 (.slice AI D.ni cI) (.slice none 0 0) (.slice (some ⟨gO, 0, none⟩) D.no D.no)
  have hset : ∀ k, k ≠ g → (((w4.setCell ⟨g, 0, none⟩ (.slice AI D.ni cI)).setCell ⟨g, 1, none⟩ (.slice none 0 0)).setCell ⟨g, 2, none⟩ (.slice (some ⟨gO, 0, none⟩) D.no D.no)).heap[k]? = w4.heap[k]? := fun k hk =>
    ((Below.heap_setCell _ _ _ k (fun q => hk q)).trans (Below.heap_setCell _ _ _ k (fun q => hk q))).trans (Below.heap_setCell _ _ _ k (fun q => hk q))
  refine ⟨ext_set3 e hg _ _ _, hg, by rw [size_set3]; exact v.lt, s0, s1, s2, sf 1, po.blk (fun b o q _ => hset b (bI b o q)) (by rw [size_set3]; exact Nat.le_refl _), nI, bI, ro.blk (fun b o q _ => hset b (by injection q with q; injection q with q; omega)) (by rw [size_set3]; exact Nat.le_refl _), bO, oI, oO⟩
theorem prS_new {W w4 : World} {gO : Nat} {AI : Option Addr} {cI : Nat} {D : Dia} {F : Nat → Int} {t : TypeId} (e : Ext W w4) (po : PoA w4 AI D) (nI : AI = none → cI = 0) (bI : ∀ b o, AI = some ⟨b, o, none⟩ → b ≠ w4.heap.size)
    (ro : Ri w4 (some ⟨gO, 0, none⟩) D.no F) (bO : gO ≠ w4.heap.size) (oI : ∀ b o, AI = some ⟨b, o, none⟩ → W.heap.size ≤ b) (oO : W.heap.size ≤ gO) : PrS W (w4.alloc (.cells #[.slice AI D.ni cI, .slice none 0 0, .slice (some ⟨gO, 0, none⟩) D.no D.no] t)) w4.heap.size gO AI cI D F := by
  obtain ⟨⟨s0, s1, s2⟩, sf⟩ := Bx.new w4 (.slice AI D.ni cI) (.slice none 0 0) (.slice (some ⟨gO, 0, none⟩) D.no D.no) t
  exact ⟨e.trans (Ext.alloc _ _), e.size, by simp, s0, s1, s2, sf 1, po.ext (Ext.alloc _ _), nI, bI, ro.ext (Ext.alloc _ _), bO, oI, oO⟩
theorem Dm.off {w w' : World} {D : Dia} {p : Pl} {h : Nat} (d : Dm w D p) (e : w.grownBy w' (some h)) (hI : ∀ b o, p.AI = some ⟨b, o, none⟩ → b ≠ h) (hB : ∀ b o, p.AB = some ⟨b, o, none⟩ → b ≠ h) (hO : ∀ b o, p.AO = some ⟨b, o, none⟩ → b ≠ h)
    (hA : ∀ i, i < D.nb → ∀ b o, p.AA i = some ⟨b, o, none⟩ → b ≠ h) : Dm w' D p where
  ports := fun hn => by
    obtain ⟨b, o, ha, hb, hc⟩ := d.ports hn
    have hbl := e.block b hb (fun q => hI b o ha (Option.some.inj q))
    refine ⟨b, o, ha, Nat.lt_of_lt_of_le hb e.size, fun i hi => ?_⟩
    obtain ⟨x0, x1, x2⟩ := hc i hi
    exact ⟨(World.cell?_of_block (a := ⟨b, _, none⟩) hbl).trans x0, (World.cell?_of_block (a := ⟨b, _, none⟩) hbl).trans x1, (World.cell?_of_block (a := ⟨b, _, none⟩) hbl).trans x2⟩
  blocks := fun hn => by
    obtain ⟨b, o, ha, hb, hc⟩ := d.blocks hn
    have hbl := e.block b hb (fun q => hB b o ha (Option.some.inj q))
    refine ⟨b, o, ha, Nat.lt_of_lt_of_le hb e.size, fun i hi => ?_⟩
    obtain ⟨x0, x1, x2, x3, x4, x5⟩ := hc i hi
    exact ⟨(World.cell?_of_block (a := ⟨b, _, none⟩) hbl).trans x0, (World.cell?_of_block (a := ⟨b, _, none⟩) hbl).trans x1, (World.cell?_of_block (a := ⟨b, _, none⟩) hbl).trans x2, (World.cell?_of_block (a := ⟨b, _, none⟩) hbl).trans x3, (World.cell?_of_block (a := ⟨b, _, none⟩) hbl).trans x4, (World.cell?_of_block (a := ⟨b, _, none⟩) hbl).trans x5⟩
  args := fun i hi => ⟨(d.args i hi).1.blk (fun b o q hb => e.block b hb (fun q2 => hA i hi b o q (Option.some.inj q2))) e.size, (d.args i hi).2⟩
  outs := d.outs.blk (fun b o q hb => e.block b hb (fun q2 => hO b o q (Option.some.inj q2))) e.size
  li := d.li
  lb := d.lb
  lo := d.lo
  nA := d.nA
  nO := d.nO
  nI := d.nI
/-- What Prune returns. -/
def PruP (D : Dia) (P : Nat → Bool) (w : World) (e : Ending) (w' : World) : Prop :=
  ∃ pl AK ck, e = .returned (.tuple #[dgv (prD D P) pl, .slice AK (mkL D.nb P).length ck, .nilIface]) ∧ Dm w' (prD D P) pl ∧ Rl w' AK ck (mkL D.nb P) ∧ Ext w w'
/-- A list of numbers in new memory. -/
def ArP (n : Nat) (f : Nat → Int) (w : World) (e : Ending) (w' : World) : Prop := ∃ A c, e = .returned (.slice A n c) ∧ Ri w' A n f ∧ (A = none → c = 0) ∧ (∀ b o, A = some ⟨b, o, none⟩ → w.heap.size ≤ b ∧ b < w'.heap.size) ∧ Ext w w'
theorem OwL.blk {w : World} {base c : Nat} {A : Option Addr} {L : List Nat} (h : OwL w base A c L) : ∀ b o, A = some ⟨b, o, none⟩ → base ≤ b ∧ b < w.heap.size := fun b o hA => by
  have h' := h
  obtain ⟨_, ⟨e, _⟩ | ⟨g, cap, cur, e, _⟩⟩ := h'
  · injection e with e1; rw [hA] at e1; cases e1
  · injection e with e1 e2 e3
    rw [hA] at e1
    injection e1 with e1
    injection e1 with e1 e4
    subst e1; subst e4; subst hA
    exact h.lt b rfl
theorem RnP.ar {n : Nat} {F : Nat → Int} {w : World} {e : Ending} {w' : World} (h : RnP n F w e w') : ArP n F w e w' := by
  obtain ⟨g, h1, h2, h3, h4, h5⟩ := h
  exact ⟨_, _, h1, h3, fun q => (by cases q), fun b o q => by injection q with q; injection q with q1 q2; omega, h5⟩
theorem bx6 {w w' : World} {a0 a1 a2 a3 a4 a5 : Value} {t : TypeId} (e : Ext (w.alloc (.cells #[a0, a1, a2, a3, a4, a5] t)) w') : w'.cell? ⟨w.heap.size, 0, none⟩ = some a0 ∧ w'.cell? ⟨w.heap.size, 1, none⟩ = some a1 ∧ w'.cell? ⟨w.heap.size, 2, none⟩ = some a2 ∧ w'.cell? ⟨w.heap.size, 3, none⟩ = some a3 ∧
    w'.cell? ⟨w.heap.size, 4, none⟩ = some a4 ∧ w'.cell? ⟨w.heap.size, 5, none⟩ = some a5 ∧ w'.frozen? ⟨w.heap.size, 1, none⟩ = false ∧ w.heap.size < w'.heap.size := by
  have hs := e.size
  have hs' : w.heap.size + 1 ≤ w'.heap.size := by simpa using hs
  have hb := e.block w.heap.size (by simp)
  refine ⟨?_, ?_, ?_, ?_, ?_, ?_, ?_, by omega⟩
  · exact (World.cell?_of_block (a := ⟨w.heap.size, 0, none⟩) hb).trans (by go_simp)
  · exact (World.cell?_of_block (a := ⟨w.heap.size, 1, none⟩) hb).trans (by go_simp)
  · exact (World.cell?_of_block (a := ⟨w.heap.size, 2, none⟩) hb).trans (by go_simp)
  · exact (World.cell?_of_block (a := ⟨w.heap.size, 3, none⟩) hb).trans (by go_simp)
  · exact (World.cell?_of_block (a := ⟨w.heap.size, 4, none⟩) hb).trans (by go_simp)
  · exact (World.cell?_of_block (a := ⟨w.heap.size, 5, none⟩) hb).trans (by go_simp)
  · exact (World.frozen?_of_block (a := ⟨w.heap.size, 1, none⟩) hb).trans (by go_simp)
theorem news6' {w : World} {g : Nat} {a0 a1 a2 a3 a4 a5 : Value} {t : TypeId} (hg : g = w.heap.size) (j : Nat) (u : Value) (h : [a0, a1, a2, a3, a4, a5][j]? = some u) : (w.alloc (.cells #[a0, a1, a2, a3, a4, a5] t)).cell? ((⟨g, 0, none⟩ : Addr).add j) = some u := by
  subst hg
  match j, h with
  | 0, h => simp at h; subst h; go_simp
  | 1, h => simp at h; subst h; go_simp
  | 2, h => simp at h; subst h; go_simp
  | 3, h => simp at h; subst h; go_simp
  | 4, h => simp at h; subst h; go_simp
  | 5, h => simp at h; subst h; go_simp
  | k + 6, h => simp at h
end

end Go.Proofs.YtcdkkohklhmpgaaGreatDoor
