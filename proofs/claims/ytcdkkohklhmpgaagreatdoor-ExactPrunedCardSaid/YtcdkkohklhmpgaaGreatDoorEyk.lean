/- Package exact: prepare, Start, Step, Run. -/
import Derived.Test.YtcdkkohklhmpgaaGreatDoorEyj
namespace Go.Proofs.YtcdkkohklhmpgaaGreatDoor
open Go Go.RowKit

def PrR (D : Dia) (p : Pl) (w : World) (e : Ending) (w' : World) : Prop :=
  ∃ Ao co Ad cd, e = .returned (.tuple #[evv D p Ao (ordL D).length co Ad (delL D).length cd, .nilIface]) ∧ Rl w' Ao co (ordL D) ∧ Rl w' Ad cd (delL D) ∧ Ext w w'
theorem fr_set5 (w : World) (g : Nat) (a b c d e : Value) : w.grownBy (((((w.setCell ⟨g, 0, none⟩ a).setCell ⟨g, 1, none⟩ b).setCell ⟨g, 2, none⟩ c).setCell ⟨g, 3, none⟩ d).setCell ⟨g, 4, none⟩ e) (some g) :=
  fr_trans (fr_trans (fr_trans (fr_trans (fr_set _ _ _ _) (fr_set _ _ _ _)) (fr_set _ _ _ _)) (fr_set _ _ _ _)) (fr_set _ _ _ _)
theorem Ri.gr {w w' : World} {A : Option Addr} {n g : Nat} {f : Nat → Int} (h : Ri w A n f) (e : w.grownBy w' (some g)) (hne : ∀ b o, A = some ⟨b, o, none⟩ → b ≠ g) : Ri w' A n f := fun hn => by
  obtain ⟨b, o, ha, hb, hc⟩ := h hn
  have hbl := e.block b hb (fun q => hne b o ha (Option.some.inj q))
  exact ⟨b, o, ha, Nat.lt_of_lt_of_le hb e.size, fun i hi => by rw [← hc i hi]; exact World.cell?_of_block (a := ⟨b, o + i, none⟩) hbl⟩
theorem Rl.gr {w w' : World} {A : Option Addr} {c g : Nat} {L : List Nat} (h : Rl w A c L) (e : w.grownBy w' (some g)) (hne : ∀ b o, A = some ⟨b, o, none⟩ → b ≠ g) : Rl w' A c L := ⟨h.1.gr e hne, h.2⟩
theorem OwL.ne {w : World} {base c : Nat} {A : Option Addr} {L : List Nat} (h : OwL w base A c L) : ∀ b o, A = some ⟨b, o, none⟩ → base ≤ b := fun b o hA => by
  have h' := h
  obtain ⟨_, ⟨e, _⟩ | ⟨g, cap, cur, e, _⟩⟩ := h'
  · injection e with e1; rw [hA] at e1; cases e1
  · injection e with e1 e2 e3
    rw [hA] at e1
    injection e1 with e1
    injection e1 with e1 e4
    subst e1; subst e4; subst hA
    exact (h.lt b rfl).1
set_option maxRecDepth 100000 in
set_option maxHeartbeats 2000000 in
theorem prepare_ok {w : World} {D : Dia} {p : Pl} (d : Dm w D p) (hT : Tabs w) (h : chk D = 0) : Calls Tryz.prog 102 #[dgv D p] w (PrR D p w) := by
  obtain ⟨W1, hW1⟩ : ∃ W1, W1 = (w.alloc (.cells #[.slice p.AI D.ni p.cI, .slice p.AB D.nb p.cB, .slice p.AO D.no p.cO] 48)).alloc (.cells #[.slice none 0 0, .slice none 0 0, .slice none 0 0, .slice none 0 0, .slice none 0 0] 132) := ⟨_, rfl⟩
  have hE : Ext w W1 := by rw [hW1]; exact (Ext.alloc _ _).trans (Ext.alloc _ _)
  have hz1 : W1.heap.size = w.heap.size + 1 + 1 := by rw [hW1]; simp
  have hbd : Bd W1 w.heap.size D p := by rw [hW1]; exact (Bd.new _ _ _ _).ext (Ext.alloc _ _)
  have HR5 : Hid (∀ w', Ext W1 w' → (w'.cell? ⟨w.heap.size + 1, 0, none⟩ = some (.slice none 0 0) ∧ w'.cell? ⟨w.heap.size + 1, 1, none⟩ = some (.slice none 0 0) ∧ w'.cell? ⟨w.heap.size + 1, 2, none⟩ = some (.slice none 0 0) ∧ w'.cell? ⟨w.heap.size + 1, 3, none⟩ = some (.slice none 0 0) ∧ w'.cell? ⟨w.heap.size + 1, 4, none⟩ = some (.slice none 0 0)) ∧
      (w'.frozen? ⟨w.heap.size + 1, 0, none⟩ = false ∧ w'.frozen? ⟨w.heap.size + 1, 1, none⟩ = false ∧ w'.frozen? ⟨w.heap.size + 1, 2, none⟩ = false ∧ w'.frozen? ⟨w.heap.size + 1, 3, none⟩ = false ∧ w'.frozen? ⟨w.heap.size + 1, 4, none⟩ = false)) := fun w' e => by
    have hl : w.heap.size + 1 < W1.heap.size := by omega
    refine ⟨⟨(e.old.1 _ _ hl).trans ?_, (e.old.1 _ _ hl).trans ?_, (e.old.1 _ _ hl).trans ?_, (e.old.1 _ _ hl).trans ?_, (e.old.1 _ _ hl).trans ?_⟩, (e.old.2 _ _ hl).trans ?_, (e.old.2 _ _ hl).trans ?_, (e.old.2 _ _ hl).trans ?_, (e.old.2 _ _ hl).trans ?_, (e.old.2 _ _ hl).trans ?_⟩ <;> (rw [hW1]; go_simp)
  have HBX : Hid (∀ w', Ext W1 w' → w'.cell? ⟨w.heap.size, 0, none⟩ = some (.slice p.AI D.ni p.cI) ∧ w'.cell? ⟨w.heap.size, 1, none⟩ = some (.slice p.AB D.nb p.cB) ∧ w'.cell? ⟨w.heap.size, 2, none⟩ = some (.slice p.AO D.no p.cO)) := fun w' e => by
    have a := hbd.ext e; exact ⟨a.c0, a.c1, a.c2⟩
  have HO : Hid (∀ w', Ext W1 w' → Calls Tryz.prog 170 #[dgv D p] w' (LsE (ordL D) w')) := fun w' e => Order_ok (d.ext (hE.trans e)) (hT.ext (hE.trans e)) h
  have HDl : Hid (∀ w', Ext W1 w' → Calls Tryz.prog 171 #[dgv D p] w' (LsE (delL D) w')) := fun w' e => Delays_ok (d.ext (hE.trans e)) (hT.ext (hE.trans e)) h
  have HE := Lib.hid hE; have HZ := Lib.hid hz1
  obtain ⟨c0, c1, c2⟩ := HBX.out _ (Ext.refl _)
  clear d hT h hbd hE hz1
  go_enter Tryz.func102, Tryz.ntmps102
  go_upto_region 1 with fail
  rw [← hW1]; clear hW1
  go_wp2_with (first
    | (go_at_call 170; (with_reducible refine (HO.out _ (Ext.refl _)).mono ?_); rintro e1 w1 ⟨Ao, co, rfl, o1, h1⟩; have HX1 := Lib.hid h1; have HO1 := Lib.hid o1; obtain ⟨d0, d1, d2⟩ := HBX.out _ h1; clear h1 o1)
    | (go_at_call 171; (with_reducible refine (HDl.out _ HX1.out).mono ?_); rintro e1 w2 ⟨Ad, cd, rfl, o2, h2⟩; have HX2 := Lib.hid (HX1.out.trans h2); have HO2 := Lib.hid o2; have HO12 := Lib.hid (HO1.out.ext h2); obtain ⟨d0, d1, d2⟩ := HBX.out _ HX2.out; obtain ⟨⟨r0, r1, r2, r3, r4⟩, f0, f1, f2, f3, f4⟩ := HR5.out _ HX2.out; clear h2 o2))
  refine bodyPost_ret (v := .tuple #[evv D p Ao (ordL D).length co Ad (delL D).length cd, .nilIface]) (by simp [results, Tryz.results102, go_sem, r0, r1, r2, r3, r4]) rfl ⟨Ao, co, Ad, cd, rfl, ?_, ?_, ?_⟩
  · exact HO12.out.rl.gr (fr_set5 _ _ _ _ _ _ _) (fun b o q => by have := HO12.out.ne b o q; have := HZ.out; omega)
  · exact HO2.out.rl.gr (fr_set5 _ _ _ _ _ _ _) (fun b o q => by have := HO2.out.ne b o q; have := HX1.out.size; have := HZ.out; omega)
  · exact ext_fr (HE.out.trans HX2.out) (fr_set5 _ _ _ _ _ _ _) (by omega)

abbrev ev0 : Value := .agg #[.slice none 0 0, .slice none 0 0, .slice none 0 0, .slice none 0 0, .slice none 0 0]
set_option maxRecDepth 100000 in
set_option maxHeartbeats 2000000 in
theorem prepare_err {w : World} {D : Dia} {p : Pl} (d : Dm w D p) (hT : Tabs w) (h : chk D ≠ 0) : Calls Tryz.prog 102 #[dgv D p] w fun e w' => e = .returned (.tuple #[ev0, .iface 61 (I (chk D))]) ∧ Ext w w' := by
  obtain ⟨W1, hW1⟩ : ∃ W1, W1 = (w.alloc (.cells #[.slice p.AI D.ni p.cI, .slice p.AB D.nb p.cB, .slice p.AO D.no p.cO] 48)).alloc (.cells #[.slice none 0 0, .slice none 0 0, .slice none 0 0, .slice none 0 0, .slice none 0 0] 132) := ⟨_, rfl⟩
  have hE : Ext w W1 := by rw [hW1]; exact (Ext.alloc _ _).trans (Ext.alloc _ _)
  have hz1 : W1.heap.size = w.heap.size + 1 + 1 := by rw [hW1]; simp
  have hbd : Bd W1 w.heap.size D p := by rw [hW1]; exact (Bd.new _ _ _ _).ext (Ext.alloc _ _)
  have HR5 : Hid (∀ w', Ext W1 w' → (w'.cell? ⟨w.heap.size + 1, 0, none⟩ = some (.slice none 0 0) ∧ w'.cell? ⟨w.heap.size + 1, 1, none⟩ = some (.slice none 0 0) ∧ w'.cell? ⟨w.heap.size + 1, 2, none⟩ = some (.slice none 0 0) ∧ w'.cell? ⟨w.heap.size + 1, 3, none⟩ = some (.slice none 0 0) ∧ w'.cell? ⟨w.heap.size + 1, 4, none⟩ = some (.slice none 0 0)) ∧
      (w'.frozen? ⟨w.heap.size + 1, 0, none⟩ = false ∧ w'.frozen? ⟨w.heap.size + 1, 1, none⟩ = false ∧ w'.frozen? ⟨w.heap.size + 1, 2, none⟩ = false ∧ w'.frozen? ⟨w.heap.size + 1, 3, none⟩ = false ∧ w'.frozen? ⟨w.heap.size + 1, 4, none⟩ = false)) := fun w' e => by
    have hl : w.heap.size + 1 < W1.heap.size := by omega
    refine ⟨⟨(e.old.1 _ _ hl).trans ?_, (e.old.1 _ _ hl).trans ?_, (e.old.1 _ _ hl).trans ?_, (e.old.1 _ _ hl).trans ?_, (e.old.1 _ _ hl).trans ?_⟩, (e.old.2 _ _ hl).trans ?_, (e.old.2 _ _ hl).trans ?_, (e.old.2 _ _ hl).trans ?_, (e.old.2 _ _ hl).trans ?_, (e.old.2 _ _ hl).trans ?_⟩ <;> (rw [hW1]; go_simp)
  have HO : Hid (∀ w', Ext W1 w' → Calls Tryz.prog 170 #[dgv D p] w' fun e w'' => e = .returned (.tuple #[.slice none 0 0, .iface 61 (I (chk D))]) ∧ Ext w' w'') := fun w' e => Order_err (d.ext (hE.trans e)) (hT.ext (hE.trans e)) h
  have HE := Lib.hid hE; have HZ := Lib.hid hz1
  have c0 := hbd.c0; have c1 := hbd.c1; have c2 := hbd.c2
  clear d hT hbd hE hz1
  have HN := Lib.hid h; clear h
  generalize chk D = code at *
  go_enter Tryz.func102, Tryz.ntmps102
  go_upto_region 1 with fail
  rw [← hW1]; clear hW1
  go_wp2_with (go_at_call 170; (with_reducible refine (HO.out _ (Ext.refl _)).mono ?_); rintro e1 w1 ⟨rfl, h1⟩; have HX1 := Lib.hid h1; obtain ⟨⟨r0, r1, r2, r3, r4⟩, f0, f1, f2, f3, f4⟩ := HR5.out _ h1; clear h1)
  refine bodyPost_ret (v := .tuple #[ev0, .iface 61 (I code)]) (by simp [results, Tryz.results102, go_sem, r0, r1, r2, r3, r4]) rfl ⟨rfl, ?_⟩
  exact ext_fr (HE.out.trans HX1.out) (fr_set5 _ _ _ _ _ _ _) (by omega)

/-! ### Run -/
/-- A list of lists of inputs. -/
structure Lli (w : World) (A : Option Addr) (n : Nat) (AA : Nat → Option Addr) (m c : Nat → Nat) (IN : Nat → Nat → Int) : Prop where
  cells : 0 < n → ∃ b o, A = some ⟨b, o, none⟩ ∧ b < w.heap.size ∧ ∀ t, t < n → w.cell? ⟨b, o + t, none⟩ = some (.slice (AA t) (m t) (c t))
  rows : ∀ t, t < n → Ri w (AA t) (m t) (IN t) ∧ m t ≤ maxLen
theorem Lli.ext {w w' : World} {A : Option Addr} {n : Nat} {AA : Nat → Option Addr} {m c : Nat → Nat} {IN : Nat → Nat → Int} (h : Lli w A n AA m c IN) (e : Ext w w') : Lli w' A n AA m c IN :=
  ⟨fun hn => by
    obtain ⟨b, o, ha, hb, hc⟩ := h.cells hn
    exact ⟨b, o, ha, Nat.lt_of_lt_of_le hb e.size, fun t ht => (e.old.1 _ _ hb).trans (hc t ht)⟩, fun t ht => ⟨(h.rows t ht).1.ext e, (h.rows t ht).2⟩⟩
def outV (D : Dia) (V : Nat → DV) : Nat → DV := fun k => V (D.O k).toNat
/-- The outputs of tick t. -/
def runV (D : Dia) (IN : Nat → Nat → Int) (t : Nat) : Nat → DV := outV D (tkV D (sqS D IN t) (IN t))
def tcE (D : Dia) (m : Nat → Nat) (IN : Nat → Nat → Int) (t : Nat) : Int := stE D (delL D).length (fun _ => true) (sqS D IN t) (m t) (IN t)
def runE (D : Dia) (n : Nat) (m : Nat → Nat) (IN : Nat → Nat → Int) : Int := if 256 < n then 4 else fstE n (tcE D m IN)
structure RoM (W w : World) (g n : Nat) (no : Nat) (G : Nat → Nat) (R : Nat → Nat → RN) (V : Nat → Nat → DV) (t : Nat) : Prop where
  ext : Ext W w
  old : W.heap.size ≤ g
  row : w.rowIs g 62 n (fun k => if k < t then .slice (some ⟨G k, 0, none⟩) no no else .slice none 0 0)
  lv : ∀ k, k < t → LvM w (G k) no (R k) (V k)
  nw : ∀ k, k < t → g < G k ∧ ∀ i, i < no → ∀ a, (R k i).A = some a → g < a.block
theorem RoM.to {W w w' : World} {g n no : Nat} {G : Nat → Nat} {R : Nat → Nat → RN} {V : Nat → Nat → DV} {t : Nat} (h : RoM W w g n no G R V t) (e : Ext w w') : RoM W w' g n no G R V t :=
  ⟨h.ext.trans e, h.old, h.row.of_block (e.block g h.row.lt), fun k hk => (h.lv k hk).ext e, h.nw⟩
theorem RoM.put {W w : World} {g n no : Nat} {G : Nat → Nat} {R : Nat → Nat → RN} {V : Nat → Nat → DV} {t : Nat} (h : RoM W w g n no G R V t) (g' : Nat) (R' : Nat → RN) (l : LvM w g' no R' (V t)) (hg : g < g') (hw : ∀ i, i < no → ∀ a, (R' i).A = some a → g < a.block) :
    RoM W (w.setCell ⟨g, t, none⟩ (.slice (some ⟨g', 0, none⟩) no no)) g n no (fun k => if k = t then g' else G k) (fun k => if k = t then R' else R k) V (t + 1) := by
  refine ⟨h.ext.set h.old _, h.old, (h.row.set t _).congr fun k _ => ?_, fun k hk => ?_, fun k hk => ?_⟩
  · by_cases q : k = t
    · subst q; rw [if_pos rfl, if_pos (by omega), if_pos rfl]
    · rw [if_neg q, if_neg q]
      by_cases q2 : k < t
      · rw [if_pos q2, if_pos (by omega)]
      · rw [if_neg q2, if_neg (by omega)]
  · by_cases q : k = t
    · subst q; rw [if_pos rfl, if_pos rfl]
      exact l.off (fr_set _ _ _ _) (by omega) fun i hi a ha => by have := hw i hi a ha; omega
    · rw [if_neg q, if_neg q]
      have hn := h.nw k (by omega)
      exact (h.lv k (by omega)).off (fr_set _ _ _ _) (by omega) fun i hi a ha => by have := hn.2 i hi a ha; omega
  · by_cases q : k = t
    · subst q; rw [if_pos rfl, if_pos rfl]; exact ⟨hg, hw⟩
    · rw [if_neg q, if_neg q]; exact h.nw k (by omega)
def RunP (D : Dia) (n : Nat) (m : Nat → Nat) (IN : Nat → Nat → Int) (w : World) (e : Ending) (w' : World) : Prop :=
  (runE D n m IN ≠ 0 ∧ e = .returned (.tuple #[.slice none 0 0, errv (runE D n m IN)]) ∧ Ext w w') ∨
  (runE D n m IN = 0 ∧ ∃ g G R, e = .returned (.tuple #[.slice (some ⟨g, 0, none⟩) n n, .nilIface]) ∧ RoM w w' g n D.no G R (runV D IN) n)
set_option maxRecDepth 100000 in
set_option maxHeartbeats 1000000 in
theorem Run_err {w : World} {D : Dia} {p : Pl} {Al : Option Addr} {n cl : Nat} (d : Dm w D p) (hT : Tabs w) (h : chk D ≠ 0) : Calls Tryz.prog 29 #[dgv D p, .slice Al n cl] w fun e w' => e = .returned (.tuple #[.slice none 0 0, .iface 61 (I (chk D))]) ∧ Ext w w' := by
  have hb : Ext w w := Ext.refl _
  have HP : Hid (∀ w', Ext w w' → Calls Tryz.prog 102 #[dgv D p] w' fun e w'' => e = .returned (.tuple #[ev0, .iface 61 (I (chk D))]) ∧ Ext w' w'') := fun w' e => prepare_err (d.ext e) (hT.ext e) h
  clear d hT h
  generalize chk D = code at *
  go_enter Tryz.func29, Tryz.ntmps29
  go_wp2_with (go_at_call 102; (with_reducible refine (HP.out _ (hb.trans (Ext.alloc _ _))).mono ?_); rintro e1 w1 ⟨rfl, h1⟩; have HX1 := Lib.hid ((Ext.alloc _ _).trans h1); clear h1)
  refine bodyPost_ret (v := .tuple #[.slice none 0 0, .iface 61 (I code)]) (by simp [results, Tryz.results29, go_sem]) rfl ⟨rfl, ?_⟩
  exact HX1.out.trans (Ext.alloc _ _)
set_option maxRecDepth 100000 in
set_option maxHeartbeats 4000000 in
theorem Run_ok {w : World} {D : Dia} {p : Pl} {Al : Option Addr} {n cl : Nat} {AA : Nat → Option Addr} {m c : Nat → Nat} {IN : Nat → Nat → Int} (d : Dm w D p) (hT : Tabs w) (h : chk D = 0) (l : Lli w Al n AA m c IN) (hn : n ≤ maxLen) :
    Calls Tryz.prog 29 #[dgv D p, .slice Al n cl] w (RunP D n m IN w) := by
  unfold maxLen at hn
  have ok := chk_ok h
  have hno := ok.no
  have hb : Ext w w := Ext.refl _
  have HP : Hid (∀ w', Ext w w' → Calls Tryz.prog 102 #[dgv D p] w' (PrR D p w')) := fun w' e => prepare_ok (d.ext e) (hT.ext e) h
  have HD := Lib.hid d; have HT := Lib.hid hT; have OK := Lib.hid ok; have HL := Lib.hid l
  by_cases hbig : 256 < n
  · have HR : Hid (runE D n m IN = 4) := by show _ = _; unfold runE; rw [if_pos hbig]
    have hbig' : decide ((256 : Int) < (n : Int)) = true := by simp; omega
    clear d hT h ok hno l
    go_enter Tryz.func29, Tryz.ntmps29
    go_wp2_with (go_at_call 102; (with_reducible refine (HP.out _ (hb.trans (Ext.alloc _ _))).mono ?_); rintro e1 w1 ⟨Ao, co, Ad, cd, rfl, _, _, h1⟩; have HX1 := Lib.hid ((Ext.alloc _ _).trans h1); clear h1)
    refine bodyPost_ret (v := .tuple #[.slice none 0 0, .iface 61 (I 4)]) (by simp [results, Tryz.results29, go_sem]) rfl (.inl ⟨by rw [HR.out]; decide, by rw [HR.out]; rfl, HX1.out.trans (Ext.alloc _ _)⟩)
  · have hsm : n ≤ 256 := by omega
    have HRE : Hid (runE D n m IN = fstE n (tcE D m IN)) := by show _ = _; unfold runE; rw [if_neg hbig]
    have hmk := run_make_row' 57 62 (.slice none 0 0) 24 Tryz.underlying57 (by kernel_rfl) rfl .i64 .i64 n (by omega) (by omega)
    clear hbig
    obtain ⟨lo, hlo⟩ : ∃ lo, (ordL D).length = lo := ⟨_, rfl⟩
    obtain ⟨ld, hld⟩ : ∃ ld, (delL D).length = ld := ⟨_, rfl⟩
    have HLO := Lib.hid hlo; have HLD := Lib.hid hld
    have HP2 : Hid (∀ w', Ext w w' → Calls Tryz.prog 102 #[dgv D p] w' (fun e w'' => ∃ Ao co Ad cd, e = .returned (.tuple #[evv D p Ao lo co Ad ld cd, .nilIface]) ∧ Rl w'' Ao co (ordL D) ∧ Rl w'' Ad cd (delL D) ∧ Ext w' w'')) := fun w' e => (HP.out w' e).mono fun e w'' h => by
      obtain ⟨Ao, co, Ad, cd, he, h1, h2, h3⟩ := h
      rw [hlo, hld] at he
      exact ⟨Ao, co, Ad, cd, he, h1, h2, h3⟩
    have HSA : Hid (∀ w' Ao co Ad cd, Ext w w' → Rl w' Ad cd (delL D) → Calls Tryz.prog 103 #[evv D p Ao lo co Ad ld cd] w' (LvR ld (s0S D) w')) := fun w' Ao co Ad cd e r => start_any (d.ext e) ok hld r (hT.ext e)
    clear d hT h ok l HP hlo hld
    go_enter Tryz.func29, Tryz.ntmps29
    go_wp2_with (first
      | (go_at_call 102; (with_reducible refine (HP2.out _ (hb.trans (Ext.alloc _ _))).mono ?_); rintro e1 w1 ⟨Ao, co, Ad, cd, rfl, ro, rd, h1⟩; have HRO := Lib.hid ro; have HRD := Lib.hid rd; have HX1 := Lib.hid ((Ext.alloc _ _).trans h1); clear ro rd h1)
      | (go_at_call 103; (with_reducible refine (HSA.out _ _ _ _ _ ((HX1.out.trans (Ext.alloc _ _)).trans (Ext.alloc _ _)) (HRD.out.ext ((Ext.alloc _ _).trans (Ext.alloc _ _)))).mono ?_); rintro e1 w2 ⟨gs, Rs, rfl, ls, hgs, nws, h2⟩))
    obtain ⟨W1, hW1⟩ : ∃ W1, W1 = w1.alloc (.cells #[.slice p.AI D.ni p.cI, .slice p.AB D.nb p.cB, .slice p.AO D.no p.cO, .slice Ao lo co, .slice Ad ld cd] 132) := ⟨_, rfl⟩
    have hB1 : B5 W1 w1.heap.size D p Ao lo co Ad ld cd := by rw [hW1]; exact B5.new _ _ _ _ _ _ _ _ _ _
    have hE1 : Ext w1 W1 := by rw [hW1]; exact Ext.alloc _ _
    rw [← hW1] at h2 hgs nws
    have hs1 : W1.heap.size = w1.heap.size + 1 := by rw [hW1]; simp
    clear hW1
    obtain ⟨g, hg'⟩ : ∃ g, w1.heap.size + 1 = g := ⟨_, rfl⟩
    have hg : W1.heap.size = g := by omega
    have hrow := (rowIs_made' W1 (.slice none 0 0) n 62 hg.symm)
    (try rw [hg'])
    have hsz : g + 1 ≤ (W1.alloc (.cells (madeCells #[.slice none 0 0] n) 62)).heap.size := by simp; omega
    have HM0 : Hid (RoM w w2 g n D.no (fun _ => 0) (fun _ _ => RN.z) (runV D IN) 0 ∧ LvM w2 gs ld Rs (sqS D IN 0) ∧ (g < gs ∧ ∀ i, i < ld → ∀ a, (Rs i).A = some a → g < a.block) ∧ Ext W1 w2) :=
      ⟨⟨((HX1.out.trans hE1).trans (Ext.alloc _ _)).trans h2, by rw [← hg]; exact (HX1.out.trans hE1).size, (hrow.of_block (h2.block g (by omega))).congr fun k _ => (if_neg (by omega)).symm, fun k hk => absurd hk (by omega), fun k hk => absurd hk (by omega)⟩, ls,
        ⟨by omega, fun i hi a ha => by have := nws i hi a ha; omega⟩, (Ext.alloc _ _).trans h2⟩
    have HB6 := Lib.hid hB1
    have HE1 := Lib.hid (HX1.out.trans hE1)
    have HRO1 := Lib.hid (HRO.out.ext hE1)
    have HRD1 := Lib.hid (HRD.out.ext hE1)
    have HG := Lib.hid hg
    clear hrow hsz ls hgs nws h2 hB1 hE1 hg hg' hs1 HSA HP2 hmk HRO HRD
    go_loopw [9, 34] (fun st s wr => ∃ (t gs : Nat) (Rs : Nat → RN) (G : Nat → Nat) (R : Nat → Nat → RN), t ≤ n ∧ s = I t ∧ st = .slice (some ⟨gs, 0, none⟩) ld ld ∧ Hid ((RoM w wr g n D.no G R (runV D IN) t ∧ LvM wr gs ld Rs (sqS D IN t) ∧ (g < gs ∧ ∀ i, i < ld → ∀ a, (Rs i).A = some a → g < a.block) ∧ Ext W1 wr) ∧ ∀ k, k < t → tcE D m IN k = 0)) (fun _ s _ => n - (intOf s).toNat)
    case atStart => exact ⟨0, gs, Rs, _, _, Nat.zero_le _, rfl, rfl, HM0.out, fun k hk => absurd hk (by omega)⟩
    case round =>
      clear HM0
      obtain ⟨t, gs, Rs, G, R, ht, rfl, rfl, H⟩ := hrel
      by_cases hlt : t < n
      · obtain ⟨b, o, hbl, hbb, hc⟩ := (HL.out.ext (HE1.out.trans H.out.1.2.2.2)).cells (by omega)
        have xl := hc t hlt
        obtain ⟨k0, k1, k2, k3, k4⟩ := HB6.out.ext H.out.1.2.2.2
        have hEr := HE1.out.trans H.out.1.2.2.2
        have HST : Hid (∀ w', Ext wr w' → Calls Tryz.prog 104 #[evv D p Ao lo co Ad ld cd, .slice (some ⟨gs, 0, none⟩) ld ld, .slice (AA t) (m t) (c t)] w' (StP D ld (fun _ => true) (sqS D IN t) (m t) (IN t) w')) := fun w' e =>
          estep_any (cs := ld) (ci := c t) (HD.out.ext (hEr.trans e)) OK.out (HT.out.ext (hEr.trans e)) HLD.out HLO.out (HRD1.out.ext (H.out.1.2.2.2.trans e)) (HRO1.out.ext (H.out.1.2.2.2.trans e)) (H.out.1.2.1.ext e).ln.rn (fun k hk => El.of ((H.out.1.2.1.ext e).el k hk)) ((HL.out.ext (hEr.trans e)).rows t hlt).1 (HL.out.rows t hlt).2
        have hlt' : (t : Int) < (n : Int) := by omega
        have hgb : g < wr.heap.size := H.out.1.1.row.lt
        have hlen : tcE D m IN t = stE D ld (fun _ => true) (sqS D IN t) (m t) (IN t) := by unfold tcE; rw [HLD.out]
        by_cases hc0 : tcE D m IN t = 0
        · have HS2 : Hid (∀ w', Ext wr w' → Calls Tryz.prog 104 #[evv D p Ao lo co Ad ld cd, .slice (some ⟨gs, 0, none⟩) ld ld, .slice (AA t) (m t) (c t)] w' (fun e w'' => ∃ g2 R2 g3 R3, e = .returned (.tuple #[.slice (some ⟨g2, 0, none⟩) ld ld, .slice (some ⟨g3, 0, none⟩) D.nb D.nb, .nilIface]) ∧ LvM w'' g2 ld R2 (sqS D IN (t + 1)) ∧ LvM w'' g3 D.nb R3 (tkV D (sqS D IN t) (IN t)) ∧ (w'.heap.size ≤ g2 ∧ ∀ i, i < ld → ∀ a, (R2 i).A = some a → w'.heap.size ≤ a.block) ∧ Ext w' w'')) := fun w' e => (HST.out w' e).mono fun e w'' h => by
            rcases h with ⟨h1, _⟩ | ⟨_, g2, R2, g3, R3, h2, h3, h4, h5, _, h7⟩
            · exact absurd (hlen.symm.trans hc0) h1
            · exact ⟨g2, R2, g3, R3, h2, h3, h4, h5, h7⟩
          have HCH : Hid (∀ w' g3 R3, Ext wr w' → LvM w' g3 D.nb R3 (tkV D (sqS D IN t) (IN t)) → Calls Tryz.prog 105 #[.slice (some ⟨g3, 0, none⟩) D.nb D.nb, .slice p.AO D.no p.cO] w' (LvR D.no (runV D IN t) w')) := fun w' g3 R3 e l => by
            have := chosen_any (c := D.nb) (cb := p.cO) l.ln (HD.out.ext (hEr.trans e)).outs (fun k hk => OK.out.out k hk) (by omega) (HT.out.ext (hEr.trans e))
            exact this
          have HNX : Hid (∀ k, k < t + 1 → tcE D m IN k = 0) := fun k hk => by
            by_cases q : k = t
            · rw [q]; exact hc0
            · exact H.out.2 k (by omega)
          have hcell : ∀ w', Ext wr w' → w'.cell? ⟨g, t, none⟩ = some (.slice none 0 0) ∧ w'.frozen? ⟨g, t, none⟩ = false := fun w' e => by
            have h1 := (H.out.1.1.to e).row.cell hlt
            rw [if_neg (by omega)] at h1
            exact ⟨h1, (H.out.1.1.to e).row.frozen t⟩
          have HCL := Lib.hid hcell
          have HB7 : Hid (∀ w', Ext wr w' → B5 w' w1.heap.size D p Ao lo co Ad ld cd) := fun w' e => HB6.out.ext (H.out.1.2.2.2.trans e)
          clear hc hEr hlen hc0 HST hcell
          go_wp2_with (first
            | (go_at_call 104; (with_reducible refine (HS2.out _ (Ext.refl _)).mono ?_); rintro e1 w3 ⟨g2, R2, g3, R3, rfl, l2, l3, n2, h3⟩; have HX3 := Lib.hid h3; have HL2 := Lib.hid l2; have HL3 := Lib.hid l3; have HN2 := Lib.hid n2; obtain ⟨y0, y1, y2, y3, y4⟩ := HB7.out _ h3; clear h3 l2 l3 n2)
            | (go_at_call 105; (with_reducible refine (HCH.out _ _ _ HX3.out HL3.out).mono ?_); rintro e1 w4 ⟨g4, R4, rfl, l4, hg4, nw4, h4⟩; have HX4 := Lib.hid (HX3.out.trans h4); have HL4 := Lib.hid l4; have HN4 := Lib.hid (And.intro hg4 nw4); have HL24 := Lib.hid (HL2.out.ext h4); obtain ⟨d0, f0⟩ := HCL.out _ HX4.out; clear h4 l4 hg4 nw4))
          (try rw [← hbl])
          go_roundw
          case rel =>
            have hx3 := HX3.out.size
            have hn2 := HN2.out
            have hn4 := HN4.out
            refine ⟨t + 1, g2, R2, _, _, by omega, by go_num, rfl, ⟨(H.out.1.1.to HX4.out).put g4 R4 HL4.out (by omega) (fun i hi a ha => by have := hn4.2 i hi a ha; omega), ?_, ⟨by omega, fun i hi a ha => by have := hn2.2 i hi a ha; omega⟩, ?_⟩, HNX.out⟩
            · exact HL24.out.off (fr_set _ _ _ _) (by omega) fun i hi a ha => by have := hn2.2 i hi a ha; omega
            · exact (H.out.1.2.2.2.trans HX4.out).set (show W1.heap.size ≤ g by rw [HG.out]; exact Nat.le_refl _) _
          case measure => simp [intOf]; omega
        · have HS2 : Hid (∀ w', Ext wr w' → Calls Tryz.prog 104 #[evv D p Ao lo co Ad ld cd, .slice (some ⟨gs, 0, none⟩) ld ld, .slice (AA t) (m t) (c t)] w' (fun e w'' => e = .returned (.tuple #[.slice none 0 0, .slice none 0 0, .iface 61 (I (tcE D m IN t))]) ∧ Ext w' w'')) := fun w' e => (HST.out w' e).mono fun e w'' h => by
            rcases h with ⟨h1, h2, h3⟩ | ⟨h1, _⟩
            · rw [← hlen, errv_n hc0] at h2; exact ⟨h2, h3⟩
            · exact absurd (hlen.trans h1) hc0
          have HR1 : Hid (runE D n m IN = tcE D m IN t ∧ tcE D m IN t ≠ 0) := ⟨by rw [HRE.out]; exact fstE_hit H.out.2 hlt hc0, hc0⟩
          clear hc hEr hlen hc0 HST
          generalize tcE D m IN t = code at *
          go_wp2_with (go_at_call 104; (with_reducible refine (HS2.out _ (Ext.refl _)).mono ?_); rintro e1 w3 ⟨rfl, h3⟩; have HX3 := Lib.hid h3; clear h3)
          refine bodyPost_ret (v := .tuple #[.slice none 0 0, .iface 61 (I code)]) (by simp [results, Tryz.results29, go_sem]) rfl (.inl ⟨by rw [HR1.out.1]; exact HR1.out.2, by rw [HR1.out.1, errv_n HR1.out.2], HE1.out.trans (H.out.1.2.2.2.trans HX3.out)⟩)
      · obtain rfl : t = n := by omega
        have HR0 : Hid (runE D t m IN = 0) := by show _ = _; rw [HRE.out]; exact fstE_none H.out.2
        go_wp2_with fail
        exact bodyPost_ret (v := .tuple #[.slice (some ⟨g, 0, none⟩) t t, .nilIface]) (by simp [results, Tryz.results29, go_sem]) rfl (.inr ⟨HR0.out, g, G, R, rfl, H.out.1.1⟩)
end Go.Proofs.YtcdkkohklhmpgaaGreatDoor
