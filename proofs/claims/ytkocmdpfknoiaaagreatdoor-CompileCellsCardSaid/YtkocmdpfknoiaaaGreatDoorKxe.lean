/- Programs of diagrams: what a program is made of, by the code. -/
import Derived.Test.YtkocmdpfknoiaaaGreatDoorKxd
namespace Go.Proofs.YtkocmdpfknoiaaaGreatDoor
open Go Go.RowKit

/-- Where the parts of a source lie. -/
structure So where
  Ao : Option Addr
  lo : Nat
  co : Nat
  Ad : Option Addr
  ld : Nat
  cd : Nat
  Ac : Option Addr
  lc : Nat
  cc : Nat
  Af : Option Addr
  cf : Nat
  Ar : Option Addr
  cr : Nat
abbrev sov (D : Dia) (p : Pl) (q : So) : Value := .agg #[.slice p.AI D.ni p.cI, .slice p.AB D.nb p.cB, .slice p.AO D.no p.cO, .slice q.Ao q.lo q.co, .slice q.Ad q.ld q.cd, .slice q.Ac q.lc q.cc, .slice q.Af D.nb q.cf, .slice q.Ar D.nb q.cr]
/-- A source's box. -/
structure Sb (w : World) (g : Nat) (D : Dia) (p : Pl) (q : So) : Prop where
  c0 : w.cell? ⟨g, 0, none⟩ = some (.slice p.AI D.ni p.cI)
  c1 : w.cell? ⟨g, 1, none⟩ = some (.slice p.AB D.nb p.cB)
  c2 : w.cell? ⟨g, 2, none⟩ = some (.slice p.AO D.no p.cO)
  c3 : w.cell? ⟨g, 3, none⟩ = some (.slice q.Ao q.lo q.co)
  c4 : w.cell? ⟨g, 4, none⟩ = some (.slice q.Ad q.ld q.cd)
  c5 : w.cell? ⟨g, 5, none⟩ = some (.slice q.Ac q.lc q.cc)
  c6 : w.cell? ⟨g, 6, none⟩ = some (.slice q.Af D.nb q.cf)
  c7 : w.cell? ⟨g, 7, none⟩ = some (.slice q.Ar D.nb q.cr)
theorem Sb.lt {w : World} {g : Nat} {D : Dia} {p : Pl} {q : So} (h : Sb w g D p q) : g < w.heap.size := World.block_lt_of_cell? w _ h.c0
theorem Sb.ext {w w' : World} {g : Nat} {D : Dia} {p : Pl} {q : So} (h : Sb w g D p q) (e : Ext w w') : Sb w' g D p q := by
  have r := fun j => e.old.1 g j h.lt
  exact ⟨(r _).trans h.c0, (r _).trans h.c1, (r _).trans h.c2, (r _).trans h.c3, (r _).trans h.c4, (r _).trans h.c5, (r _).trans h.c6, (r _).trans h.c7⟩
abbrev soC (D : Dia) (p : Pl) (q : So) : Obj := .cells #[.slice p.AI D.ni p.cI, .slice p.AB D.nb p.cB, .slice p.AO D.no p.cO, .slice q.Ao q.lo q.co, .slice q.Ad q.ld q.cd, .slice q.Ac q.lc q.cc, .slice q.Af D.nb q.cf, .slice q.Ar D.nb q.cr] 85
theorem Sb.new (w : World) (D : Dia) (p : Pl) (q : So) : Sb (w.alloc (soC D p q)) w.heap.size D p q :=
  ⟨by go_simp, by go_simp, by go_simp, by go_simp, by go_simp, by go_simp, by go_simp, by go_simp⟩
/-- The raw values block by block. -/
def RwsM (w : World) (A : Option Addr) (n : Nat) (D : Dia) (F : Nat → Int) : Prop :=
  0 < n → ∃ b o, A = some ⟨b, o, none⟩ ∧ b < w.heap.size ∧ ∀ i, i < n → ∃ Ai ci, w.cell? ⟨b, o + i, none⟩ = some (.slice Ai (kpN (D.B i).k) ci) ∧ Ri w Ai (kpN (D.B i).k) (rwV (D.B i) (F i)) ∧ (Ai = none → ci = 0)
theorem RwsM.ext {w w' : World} {A : Option Addr} {n : Nat} {D : Dia} {F : Nat → Int} (h : RwsM w A n D F) (e : Ext w w') : RwsM w' A n D F := fun hn => by
  obtain ⟨b, o, rfl, hb, hc⟩ := h hn
  refine ⟨b, o, rfl, Nat.lt_of_lt_of_le hb e.size, fun i hi => ?_⟩
  obtain ⟨Ai, ci, h1, h2, h3⟩ := hc i hi
  exact ⟨Ai, ci, (e.old.1 _ _ hb).trans h1, h2.ext e, h3⟩
structure SoM (w : World) (D : Dia) (F : Nat → Int) (p : Pl) (q : So) : Prop where
  dm : Dm w D p
  ol : q.lo = (ordL D).length
  ord : Ri w q.Ao q.lo (fun j => (((ordL D).getD j 0 : Nat) : Int))
  dl : q.ld = ndl D
  del : Ri w q.Ad q.ld (fun k => ((dlA D k : Nat) : Int))
  cl : q.lc = ncl D
  clp : Ri w q.Ac q.lc (fun k => ((clA D k : Nat) : Int))
  sc : Ri w q.Af D.nb F
  rw : RwsM w q.Ar D.nb D F
theorem SoM.ext {w w' : World} {D : Dia} {F : Nat → Int} {p : Pl} {q : So} (h : SoM w D F p q) (e : Ext w w') : SoM w' D F p q :=
  ⟨h.dm.ext e, h.ol, h.ord.ext e, h.dl, h.del.ext e, h.cl, h.clp.ext e, h.sc.ext e, h.rw.ext e⟩
/-- The place of a clip among the clips. -/
theorem mkL_pre' (P : Nat → Bool) (j : Nat) : ∀ d, ∃ R, mkL (j + d) P = mkL j P ++ R
  | 0 => ⟨[], by simp⟩
  | d + 1 => by
    obtain ⟨R, h⟩ := mkL_pre' P j d
    show ∃ R, mkL (j + d) P ++ _ = _
    exact ⟨R ++ _, by rw [h, List.append_assoc]⟩
theorem mkL_at {P : Nat → Bool} {n i : Nat} (hi : i < n) (h : P i = true) : (mkL n P).getD (cnt i P) 0 = i ∧ cnt i P < (mkL n P).length := by
  obtain ⟨R, hR⟩ := mkL_pre' P (i + 1) (n - (i + 1))
  rw [show i + 1 + (n - (i + 1)) = n by omega] at hR
  rw [hR, show mkL (i + 1) P = mkL i P ++ [i] from mkL_t h, List.append_assoc]
  have hl := mkL_len i P
  constructor
  · simp [List.getD, hl]
  · simp [hl]
theorem mkL_fst {P : Nat → Bool} {n i : Nat} (hi : i < n) (h : P i = true) {m : Nat} (hm : m = (mkL n P).length) : fstI m (fun j => ((i : Nat) : Int) == (((mkL n P).getD j 0 : Nat) : Int)) = cnt i P := by
  obtain ⟨h1, h2⟩ := mkL_at hi h
  subst hm
  refine fstI_hit (fun j hj => ?_) h2 ?_
  · have hp := mkL_sorted n P
    have hlt := List.pairwise_iff_getElem.1 hp j (cnt i P) (by omega) h2 hj
    have e1 : (mkL n P).getD j 0 = (mkL n P)[j]'(by omega) := by simp [List.getD, List.getElem?_eq_getElem (show j < (mkL n P).length by omega)]
    have e2 : (mkL n P).getD (cnt i P) 0 = (mkL n P)[cnt i P]'h2 := by simp [List.getD, List.getElem?_eq_getElem h2]
    rw [h1] at e2
    rw [e1]
    simp; omega
  · rw [h1]; simp
set_option maxRecDepth 100000 in
set_option maxHeartbeats 1000000 in
theorem next_any {w : World} {D : Dia} {p : Pl} {q : So} (k : Nat) (hk : k ≤ 1000) (hn : D.nb ≤ 1000) : Calls Tryz.prog 90 #[sov D p q, I k] w fun e w' => e = .returned (I ((D.nb + k : Nat) : Int)) ∧ Ext w w' := by
  have hw : IntKind.i64.wrap ((D.nb : Int) + (k : Int)) = ((D.nb + k : Nat) : Int) := by rw [IntWalk.i64_in _ (by omega)]; omega
  go_enter Tryz.func90, Tryz.ntmps90
  go_wp2_with fail
  go_ret
  exact ⟨ret_int (by omega), Ext.alloc _ _⟩
set_option maxRecDepth 100000 in
set_option maxHeartbeats 1000000 in
theorem bounds_any {w : World} {D : Dia} {F : Nat → Int} {p : Pl} {q : So} (m : SoM w D F p q) (hnb : D.nb ≤ 64) (i : Nat) (hi : i < D.nb) (hc : isC D i = true) : Calls Tryz.prog 89 #[sov D p q, I i] w fun e w' => e = .returned (I ((bnC D i : Nat) : Int)) ∧ Ext w w' := by
  obtain ⟨W1, hW1⟩ : ∃ W1, W1 = w.alloc (soC D p q) := ⟨_, rfl⟩
  have HS := Lib.hid (Sb.new w D p q)
  have HE := Lib.hid (Ext.alloc w (soC D p q))
  rw [← hW1] at HS HE
  have hcl : q.lc ≤ 64 := by rw [m.cl]; have := ndc_le D; omega
  have hdl : q.ld ≤ 64 := by rw [m.dl]; have := ndc_le D; omega
  have hct := cnt_le i (isC D)
  have hix := mkL_fst hi hc (m := q.lc) (by rw [m.cl]; rfl)
  have HX : Hid (∀ w', Ext w w' → Calls Tryz.prog 135 #[.slice q.Ac q.lc q.cc, I i] w' fun e w'' => e = .returned (I ((cnt i (isC D) : Nat) : Int)) ∧ Ext w' w'') := fun w' x => by
    have := indexZ_any (c := q.cc) (v := (i : Int)) (m.clp.ext x) (by unfold maxLen; omega)
    rw [show fstI q.lc (fun j => ((i : Nat) : Int) == ((clA D j : Nat) : Int)) = cnt i (isC D) from hix] at this
    exact this
  have HV : Hid (((bnC D i : Nat) : Int) = (D.nb : Int) + (q.ld : Int) + 2 * ((cnt i (isC D) : Nat) : Int)) := by show _ = _; unfold bnC; rw [m.dl]; omega
  rw [HV.out]; clear HV
  clear hix m hc
  generalize cnt i (isC D) = ct at *
  have hw1 : IntKind.i64.wrap ((D.nb : Int) + (q.ld : Int)) = (D.nb : Int) + (q.ld : Int) := IntWalk.i64_in _ (by omega)
  have hw2 : IntKind.i64.wrap (2 * (ct : Int)) = 2 * (ct : Int) := IntWalk.i64_in _ (by omega)
  have hw3 : IntKind.i64.wrap ((D.nb : Int) + (q.ld : Int) + 2 * (ct : Int)) = (D.nb : Int) + (q.ld : Int) + 2 * (ct : Int) := IntWalk.i64_in _ (by omega)
  go_enter Tryz.func89, Tryz.ntmps89
  go_upto_region 1 with fail
  rw [← hW1]; clear hW1
  have hb := Ext.refl W1
  obtain ⟨c0, c1, c2, c3, c4, c5, c6, c7⟩ := HS.out
  have hlt := HS.out.lt
  have hL := fun (x : Later _) => (Ext.trans hb x.ext).old.1
  refine wp_region_later (by kernel_rfl) (by kernel_rfl) ?_
  repeat (go_big_quiet_step ((go_at_call 135; exact Calls.later (HX.out _ (HE.out.trans (Later.ext _))))))
  refine wpQuiet_nil ?_
  intro w2 hw2
  replace hb := Ext.trans hb (Later.of hw2)
  clear hw2 hL
  obtain ⟨hc, hf⟩ := hb.old
  go_wp2_with fail
  go_ret
  exact ⟨rfl, HE.out.trans hb⟩
set_option maxRecDepth 100000 in
set_option maxHeartbeats 1000000 in
theorem toScale_any {w : World} {D : Dia} {F : Nat → Int} {p : Pl} {q : So} (m : SoM w D F p q) (i j : Nat) (hi : i < D.nb) (hj : j < D.nb) (bi : 0 ≤ F i ∧ F i ≤ 30) (bj : 0 ≤ F j ∧ F j ≤ 30) : Calls Tryz.prog 134 #[sov D p q, I i, I j] w fun e w' => e = .returned (I (F i - F j)) ∧ Ext w w' := by
  obtain ⟨W1, hW1⟩ : ∃ W1, W1 = w.alloc (soC D p q) := ⟨_, rfl⟩
  have HS := Lib.hid (Sb.new w D p q)
  have HE := Lib.hid (Ext.alloc w (soC D p q))
  rw [← hW1] at HS HE
  obtain ⟨b, o, hA, hbl, hc⟩ := (m.sc.ext HE.out) (by omega)
  have xi := hc i hi
  have xj := hc j hj
  have hw1 : IntKind.i64.wrap (F i - F j) = F i - F j := IntWalk.i64_in _ (by omega)
  have hi' : (i : Int) < (D.nb : Int) := by omega
  have hj' : (j : Int) < (D.nb : Int) := by omega
  clear hc m bi bj
  generalize F i = fi at *
  generalize F j = fj at *
  go_enter Tryz.func134, Tryz.ntmps134
  go_upto_region 1 with fail
  (try rw [← hA])
  rw [← hW1]; clear hW1
  have hb := Ext.refl W1
  obtain ⟨c0, c1, c2, c3, c4, c5, c6, c7⟩ := HS.out
  have hlt := HS.out.lt
  rw [hA] at c6
  have hL := fun (x : Later _) => (Ext.trans hb x.ext).old.1
  refine wp_region_later (by kernel_rfl) (by kernel_rfl) ?_
  repeat (go_big_quiet_step ((fail)))
  refine wpQuiet_nil ?_
  intro w2 hw2
  replace hb := Ext.trans hb (Later.of hw2)
  clear hw2 hL
  obtain ⟨hc, hf⟩ := hb.old
  go_wp2_with fail
  go_ret
  exact ⟨rfl, HE.out.trans hb⟩
end Go.Proofs.YtkocmdpfknoiaaaGreatDoor
