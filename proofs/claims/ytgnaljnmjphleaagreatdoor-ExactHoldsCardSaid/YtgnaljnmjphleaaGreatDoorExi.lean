/- The reference of layer 11: Run. -/
import Derived.Test.YtgnaljnmjphleaaGreatDoorExf
namespace Go.Proofs.YtgnaljnmjphleaaGreatDoor
open Go Go.RowKit

/-- A list of numbers lies apart from a block. -/
def Apt (own : Option Nat) (A : Option Addr) (n : Nat) (R : Nat → RN) (V : Nat → DV) : Prop :=
  (0 < n → ∀ a, A = some a → some a.block ≠ own) ∧ ∀ i, i < n → 0 < len (V i).m → ∀ a, (R i).A = some a → some a.block ≠ own
theorem Ln.gr {w w' : World} {A : Option Addr} {n : Nat} {R : Nat → RN} {V : Nat → DV} {own : Option Nat} (h : Ln w A n R V) (e : w.grownBy w' own) (ap : Apt own A n R V) : Ln w' A n R V :=
  ⟨fun hn => by
    obtain ⟨b, o, ha, hb, hc⟩ := h.rn hn
    have hbl := e.block b hb (ap.1 hn _ ha)
    exact ⟨b, o, ha, Nat.lt_of_lt_of_le hb e.size, fun i hi => ⟨(World.cell?_of_block (a := ⟨b, o + i * 3, none⟩) hbl).trans (hc i hi).1, (World.cell?_of_block (a := ⟨b, o + i * 3 + 1, none⟩) hbl).trans (hc i hi).2.1, (World.cell?_of_block (a := ⟨b, o + i * 3 + 2, none⟩) hbl).trans (hc i hi).2.2⟩⟩,
   fun i hi => (h.el i hi).gr e (ap.2 i hi)⟩
theorem Apt.step {w : World} {A : Option Addr} {n g : Nat} {R : Nat → RN} {V : Nat → DV} {own : Option Nat} (h : Ln w A n R V) (ap : Apt own A n R V) (hat : own = some g ∨ g = w.heap.size) : Apt (some g) A n R V := by
  rcases hat with hat | hat
  · rw [← hat]; exact ap
  · refine ⟨fun hn a ha q => ?_, fun i hi hl a ha q => ?_⟩
    · obtain ⟨b, o, e, hb, _⟩ := h.rn hn
      rw [ha] at e; injection e with e; subst e
      injection q with q; have hb' : b < w.heap.size := hb; have q' : b = g := q; omega
    · have := (h.el i hi).blk hl a ha
      injection q with q; omega
theorem Apt.congr {own : Option Nat} {A : Option Addr} {n : Nat} {R : Nat → RN} {V V' : Nat → DV} (h : Apt own A n R V) (e : ∀ i, i < n → V i = V' i) : Apt own A n R V' := ⟨h.1, fun i hi => by rw [← e i hi]; exact h.2 i hi⟩
/-! ### Rows -/
def rws (G : Nat → Option Addr) (cc : Nat → Nat) (no : Nat) : Nat → List Value
  | 0 => []
  | t + 1 => rws G cc no t ++ [.slice (G t) no (cc t)]
theorem rws_len (G : Nat → Option Addr) (cc : Nat → Nat) (no t : Nat) : (rws G cc no t).length = t := by
  induction t with
  | zero => rfl
  | succ t ih => show (rws G cc no t ++ [_]).length = _; rw [List.length_append, ih]; rfl
theorem rws_get {G : Nat → Option Addr} {cc : Nat → Nat} {no t k : Nat} (hk : k < t) : (rws G cc no t)[k]? = some (.slice (G k) no (cc k)) := by
  induction t with
  | zero => omega
  | succ t ih =>
    show (rws G cc no t ++ [_])[k]? = _
    by_cases e : k = t
    · subst e; rw [List.getElem?_append_right (by rw [rws_len]; exact Nat.le_refl _), rws_len]; simp
    · rw [List.getElem?_append_left (by rw [rws_len]; omega)]; exact ih (by omega)
theorem rws_congr {G G' : Nat → Option Addr} {cc cc' : Nat → Nat} {no t : Nat} (h : ∀ k, k < t → G k = G' k ∧ cc k = cc' k) : rws G cc no t = rws G' cc' no t := by
  induction t with
  | zero => rfl
  | succ t ih => show rws G cc no t ++ [_] = rws G' cc' no t ++ [_]; rw [ih fun k hk => h k (by omega), (h t (by omega)).1, (h t (by omega)).2]
theorem infoSl : (Tryz.prog.info? 27).map (fun i => (i.zero.map (fun z => z.cells.size), i.size, i.bytes)) = some (some 1, 1, 24) := by kernel_rfl
theorem infoSl' : ∃ i z, Tryz.prog.info? 27 = some i ∧ i.zero = some z ∧ i.size = 1 ∧ i.bytes = 24 ∧ z.cells.size = 1 := by
  have h := infoSl
  cases hi : Tryz.prog.info? 27 with
  | none => rw [hi] at h; simp at h
  | some i =>
    rw [hi] at h
    simp only [Option.map_some, Option.some.injEq, Prod.mk.injEq] at h
    cases hz : i.zero with
    | none => rw [hz] at h; simp at h
    | some z =>
      rw [hz] at h
      simp only [Option.map_some, Option.some.injEq] at h
      exact ⟨i, z, rfl, hz, h.2.1, h.2.2, h.1⟩
def OwR (w : World) (base : Nat) (A : Option Addr) (c : Nat) (G : Nat → Option Addr) (cc : Nat → Nat) (no n : Nat) : Prop := w.ownsRow base 27 1 (.slice A n c) n (rws G cc no n)
theorem OwR.nil (w : World) (base : Nat) (G : Nat → Option Addr) (cc : Nat → Nat) (no : Nat) : OwR w base none 0 G cc no 0 := World.ownsRow_nil _ _ _ _
theorem OwR.lt {w : World} {base c n no : Nat} {A : Option Addr} {G : Nat → Option Addr} {cc : Nat → Nat} (h : OwR w base A c G cc no n) : ∀ k, (Value.slice A n c).ownBlock = some k → base ≤ k ∧ k < w.heap.size := World.ownsRow.lt h
theorem OwR.ext {w w' : World} {base c n no : Nat} {A : Option Addr} {G : Nat → Option Addr} {cc : Nat → Nat} (h : OwR w base A c G cc no n) (e : Ext w w') : OwR w' base A c G cc no n :=
  World.ownsRow.kept h (ext_gr e) (by cases (Value.slice A n c).ownBlock <;> simp)
theorem OwR.congr {w : World} {base c n no : Nat} {A : Option Addr} {G G' : Nat → Option Addr} {cc cc' : Nat → Nat} (h : OwR w base A c G cc no n) (e : ∀ k, k < n → G k = G' k ∧ cc k = cc' k) : OwR w base A c G' cc' no n := by
  unfold OwR at h ⊢; rw [← rws_congr e]; exact h
theorem OwR.at_ {w : World} {base c n no : Nat} {A : Option Addr} {G : Nat → Option Addr} {cc : Nat → Nat} (h : OwR w base A c G cc no n) (h0 : 0 < n) : ∃ g, A = some ⟨g, 0, none⟩ ∧ g < w.heap.size ∧ ∀ k, k < n → w.cell? ⟨g, k, none⟩ = some (.slice (G k) no (cc k)) := by
  have h' := h
  obtain ⟨_, ⟨e, hz⟩ | ⟨g, cap, cur, e, _⟩⟩ := h'
  · omega
  · injection e with e1 e2 e3
    subst e1
    refine ⟨g, rfl, (World.ownsRow.lt h g rfl).2, fun k hk => ?_⟩
    rw [World.ownsRow.cellAt h k (by omega)]; exact rws_get hk
theorem appR {ops : Array Oper} {rest : List Oper} {o : Oper} {a : Act} {w : World} {Q : Exit → Act → World → Prop} (hgd : o.guard = none) (s x : Operand) (ho : o.op = .call { callee := .builtin .append, args := #[s, x], argTypes := #[45, 45] })
    (base : Nat) (A : Option Addr) (c : Nat) (G : Nat → Option Addr) (cc : Nat → Nat) (no n : Nat) (hs : a.eval s = .slice A n c) (hown : OwR w base A c G cc no n) (ad : Addr) (cx : Nat) (hx : a.eval x = .slice (some ad) 1 cx) (hv : w.cell? (ad.add 0) = some (.slice (G n) no (cc n)))
    (hn : n ≤ 1099511627) (hbase : base ≤ w.heap.size)
    (h : ∀ g cap w', OwR w' base (some ⟨g, 0, none⟩) cap G cc no (n + 1) → w.grownBy w' (Value.slice A n c).ownBlock → ((Value.slice A n c).ownBlock = some g ∨ g = w.heap.size) → g < w'.heap.size →
      wpList Tryz.prog ops Q rest (a.put o.dst (.slice (some ⟨g, 0, none⟩) (n + 1) cap)) w') : wpList Tryz.prog ops Q (o :: rest) a w := by
  obtain ⟨i, z, hi, hz, h1, hb, hzs⟩ := infoSl'
  exact wpList_append_lies w hgd s x _ ho base 27 i z 1 24 Tryz.underlying45 hi hz h1 hb hzs (by omega) _ n _ hs hown ad 1 cx [.slice (G n) no (cc n)] hx rfl (by
      intro j u hu
      match j, hu with
      | 0, hu => simp at hu; subst hu; exact hv
      | j + 1, hu => simp at hu)
    (by intro u hu; simp only [List.mem_cons, List.not_mem_nil, or_false] at hu; subst hu; rfl) (by omega) (by unfold maxLen; omega) (by omega) hbase w.heap.size rfl h
/-- The rows of the ticks before t; the state of tick t. -/
structure RrM (W w : World) (base no ld : Nat) (A : Option Addr) (c : Nat) (G : Nat → Option Addr) (cc : Nat → Nat) (R : Nat → Nat → RN) (V : Nat → Nat → DV) (As : Option Addr) (Rs : Nat → RN) (S : Nat → DV) (t : Nat) : Prop where
  ext : Ext W w
  bas : W.heap.size ≤ base
  blt : base ≤ w.heap.size
  own : OwR w base A c G cc no t
  el : ∀ k, k < t → Ln w (G k) no (R k) (V k) ∧ Apt (Value.slice A t c).ownBlock (G k) no (R k) (V k)
  st : Ln w As ld Rs S ∧ Apt (Value.slice A t c).ownBlock As ld Rs S
def putA (G : Nat → Option Addr) (t : Nat) (A : Option Addr) : Nat → Option Addr := fun k => if k = t then A else G k
def putN (cc : Nat → Nat) (t c : Nat) : Nat → Nat := fun k => if k = t then c else cc k
def putS (R : Nat → Nat → RN) (t : Nat) (R' : Nat → RN) : Nat → Nat → RN := fun k => if k = t then R' else R k
theorem RrM.step {W w wb w' : World} {base no ld g cap c t c2 : Nat} {A A2 As As' : Option Addr} {G : Nat → Option Addr} {cc : Nat → Nat} {R : Nat → Nat → RN} {V : Nat → Nat → DV} {Rs Rs' R2 : Nat → RN} {S S' : Nat → DV}
    (h : RrM W w base no ld A c G cc R V As Rs S t) (e : Ext w wb) (l : Ln wb A2 no R2 (V t)) (ap : Apt (Value.slice A t c).ownBlock A2 no R2 (V t)) (ls : Ln wb As' ld Rs' S') (aps : Apt (Value.slice A t c).ownBlock As' ld Rs' S')
    (o : OwR w' base (some ⟨g, 0, none⟩) cap (putA G t A2) (putN cc t c2) no (t + 1)) (hg : wb.grownBy w' (Value.slice A t c).ownBlock) (hat : (Value.slice A t c).ownBlock = some g ∨ g = wb.heap.size) :
    RrM W w' base no ld (some ⟨g, 0, none⟩) cap (putA G t A2) (putN cc t c2) (putS R t R2) V As' Rs' S' (t + 1) := by
  have hb := h.bas
  refine ⟨Below.grown (h.ext.trans e) hg (h.ext.trans e).size (fun k hk => Nat.le_trans hb ((h.own.ext e).lt k hk).1), hb, Nat.le_trans h.blt (Nat.le_trans e.size hg.size), o, fun k hk => ?_, ?_⟩
  · have hown : (Value.slice (some ⟨g, 0, none⟩) (t + 1) cap).ownBlock = some g := rfl
    rw [hown]
    unfold putA putS
    by_cases q : k = t
    · subst q; rw [if_pos rfl, if_pos rfl]; exact ⟨l.gr hg ap, ap.step l hat⟩
    · rw [if_neg q, if_neg q]
      have hk' := h.el k (by omega)
      exact ⟨(hk'.1.ext e).gr hg hk'.2, hk'.2.step (hk'.1.ext e) hat⟩
  · exact ⟨ls.gr hg aps, aps.step ls hat⟩
theorem RrM.own' {W w wb : World} {base no ld c t : Nat} {A As : Option Addr} {G : Nat → Option Addr} {cc : Nat → Nat} {R : Nat → Nat → RN} {V : Nat → Nat → DV} {Rs : Nat → RN} {S : Nat → DV}
    (h : RrM W w base no ld A c G cc R V As Rs S t) (e : Ext w wb) (A2 : Option Addr) (c2 : Nat) : OwR wb base A c (putA G t A2) (putN cc t c2) no t :=
  (h.own.ext e).congr fun k hk => ⟨(if_neg (by omega)).symm, (if_neg (by omega)).symm⟩
def RnA (D : Dia) (n : Nat) (IN : Nat → Nat → Int) (w : World) (e : Ending) (w' : World) : Prop :=
  ∃ (A : Option Addr) (c : Nat) (G : Nat → Option Addr) (cc : Nat → Nat) (R : Nat → Nat → RN), e = .returned (.tuple #[.slice A n c, I 0]) ∧ (0 < n → ∃ g, A = some ⟨g, 0, none⟩ ∧ g < w'.heap.size ∧ ∀ k, k < n → w'.cell? ⟨g, k, none⟩ = some (.slice (G k) D.no (cc k))) ∧ (∀ k, k < n → Ln w' (G k) D.no (R k) (runV D IN k)) ∧ Ext w w'

set_option maxRecDepth 100000 in
set_option maxHeartbeats 4000000 in
theorem rRun_any {w : World} {D : Dia} {p : Pl} {Al : Option Addr} {n cl : Nat} {AA : Nat → Option Addr} {m c : Nat → Nat} {IN : Nat → Nat → Int} (d : Dm w D p) (h : chk D = 0) (l : Lli w Al n AA m c IN) (hn : n ≤ maxLen) :
    Calls Tryz.prog 19 #[dgv D p, .slice Al n cl] w (fun e w' => (runE D n m IN ≠ 0 ∧ e = .returned (.tuple #[.slice none 0 0, I (runE D n m IN)]) ∧ Ext w w') ∨ (runE D n m IN = 0 ∧ RnA D n IN w e w')) := by
  unfold maxLen at hn
  have ok := chk_ok h
  have hno := ok.no
  have hdl := del_le D
  have hnb := ok.nb
  obtain ⟨W1, hW1⟩ : ∃ W1, W1 = w.alloc (.cells #[.slice p.AI D.ni p.cI, .slice p.AB D.nb p.cB, .slice p.AO D.no p.cO] 26) := ⟨_, rfl⟩
  have hE : Ext w W1 := by rw [hW1]; exact Ext.alloc _ _
  have hbd : Bd W1 w.heap.size D p := by rw [hW1]; exact Bd.new _ _ _ _
  have HB := Lib.hid hbd; have HD := Lib.hid (d.ext hE); have HE := Lib.hid hE; have OK := Lib.hid ok; have HL := Lib.hid (l.ext hE)
  obtain ⟨c0, c1, c2⟩ := hbd
  by_cases hbig : 256 < n
  · have HR : Hid (runE D n m IN = 4) := by show _ = _; unfold runE; rw [if_pos hbig]
    have hbig' : (256 : Int) < (n : Int) := by omega
    clear d l hE ok hbig
    go_enter Tryz.func19, Tryz.ntmps19
    go_upto_region 1 with fail
    rw [← hW1]; clear hW1
    go_wp2_with fail
    exact bodyPost_ret (v := .tuple #[.slice none 0 0, I 4]) (by simp [results, Tryz.results19, go_sem]) rfl (.inl ⟨by rw [HR.out]; decide, by rw [HR.out], HE.out⟩)
  · have HRE : Hid (runE D n m IN = fstE n (tcE D m IN)) := by show _ = _; unfold runE; rw [if_neg hbig]
    have hsm : n ≤ 256 := by omega
    have hbig' : ¬ (256 : Int) < (n : Int) := by omega
    obtain ⟨ld, hld⟩ : ∃ ld, (delL D).length = ld := ⟨_, rfl⟩
    have HLD := Lib.hid hld
    have HSA : Hid (∀ w', Ext W1 w' → Calls Tryz.prog 17 #[dgv D p] w' (LnR ld (s0S D) w')) := fun w' e => by rw [← hld]; exact rstart_any (d.ext (hE.trans e)) ok
    rw [hld] at hdl
    clear d l hE ok hbig hld h
    go_enter Tryz.func19, Tryz.ntmps19
    go_upto_region 1 with fail
    rw [← hW1]; clear hW1
    go_wp2_with (go_at_call 17; (with_reducible refine (HSA.out _ (Ext.refl _)).mono ?_); rintro e1 w2 ⟨As, cs, Rs, rfl, ls, h2⟩; have HX2 := Lib.hid h2; have HLS := Lib.hid ls; clear h2 ls)
    clear c0 c1 c2
    have HM0 : Hid (RrM w2 w2 w2.heap.size D.no ld none 0 (fun _ => none) (fun _ => 0) (fun _ _ => RN.z) (runV D IN) As Rs (sqS D IN 0) 0) :=
      ⟨Ext.refl _, Nat.le_refl _, Nat.le_refl _, OwR.nil _ _ _ _ _, fun k hk => absurd hk (by omega), HLS.out, fun _ a _ => by simp [Value.ownBlock], fun i _ _ a _ => by simp [Value.ownBlock]⟩
    go_loopw [6, 7, 23] (fun s6 s7 s wr => ∃ (t : Nat) (A As : Option Addr) (c cs : Nat) (G : Nat → Option Addr) (cc : Nat → Nat) (R : Nat → Nat → RN) (Rs : Nat → RN), t ≤ n ∧ s = I t ∧ s6 = .slice As ld cs ∧ s7 = .slice A t c ∧ Hid (RrM w2 wr w2.heap.size D.no ld A c G cc R (runV D IN) As Rs (sqS D IN t) t ∧ ∀ k, k < t → tcE D m IN k = 0)) (fun _ _ s _ => n - (intOf s).toNat)
    case atStart => exact ⟨0, none, As, 0, cs, _, _, _, Rs, Nat.zero_le _, rfl, rfl, rfl, HM0.out, fun k hk => absurd hk (by omega)⟩
    case round =>
      clear HM0
      obtain ⟨t, A, As, c3, cs, G, cc, R, Rs, ht, rfl, rfl, rfl, H⟩ := hrel
      obtain ⟨wo, hwo⟩ : ∃ wo, wo = wr := ⟨_, rfl⟩
      subst hwo
      by_cases hlt : t < n
      · have hX := HX2.out.trans H.out.1.ext
        obtain ⟨b, o, hbl, hbb, hc⟩ := (HL.out.ext hX).cells (by omega)
        have xl := hc t hlt
        obtain ⟨c0, c1, c2⟩ := HB.out.ext hX
        have hlt' : (t : Int) < (n : Int) := by omega
        have hlen : tcE D m IN t = stE D ld (fun _ => true) (sqS D IN t) (m t) (IN t) := by unfold tcE; rw [HLD.out]
        have HST : Hid (∀ w', Ext wo w' → Calls Tryz.prog 15 #[dgv D p, .slice As ld cs, .slice (AA t) (m t) (c t)] w' (RsP (fun b => some b ≠ (Value.slice A t c3).ownBlock) D ld (fun _ => true) (sqS D IN t) (m t) (IN t) w')) := fun w' e =>
          rstep_any (HD.out.ext (hX.trans e)) OK.out (H.out.1.st.1.rn.ext e) (fun k hk => Er.of ((H.out.1.st.1.el k hk).ext e)) ((HL.out.ext (hX.trans e)).rows t hlt).1 (HL.out.rows t hlt).2 (by unfold maxLen; omega)
            (fun b hb q => by have := (H.out.1.own.lt b q.symm).2; have := e.size; omega) H.out.1.st.2.2
        have HXo := Lib.hid hX
        by_cases hc0 : tcE D m IN t = 0
        · have HNX : Hid (∀ k, k < t + 1 → tcE D m IN k = 0) := fun k hk => by
            by_cases q : k = t
            · rw [q]; exact hc0
            · exact H.out.2 k (by omega)
          have HS2 : Hid (∀ w', Ext wo w' → Calls Tryz.prog 15 #[dgv D p, .slice As ld cs, .slice (AA t) (m t) (c t)] w' (fun e w'' => ∃ A2 c2 R2 g3 R3, e = .returned (.tuple #[.slice A2 ld c2, .slice (some ⟨g3, 0, none⟩) D.nb D.nb, I 0]) ∧ (Ln w'' A2 ld R2 (sqS D IN (t + 1)) ∧ Apt (Value.slice A t c3).ownBlock A2 ld R2 (sqS D IN (t + 1))) ∧ (Ln w'' (some ⟨g3, 0, none⟩) D.nb R3 (tkV D (sqS D IN t) (IN t)) ∧ ∀ i, i < D.nb → 0 < len (tkV D (sqS D IN t) (IN t) i).m → ∀ a, (R3 i).A = some a → some a.block ≠ (Value.slice A t c3).ownBlock) ∧ Ext w' w'')) := fun w' e => (HST.out w' e).mono fun e w'' h => by
            rcases h with ⟨h1, _⟩ | ⟨_, A2, c2, R2, g3, R3, h2, h3, h4, h5, h6, h7, h8⟩
            · exact absurd (hlen.symm.trans hc0) h1
            · exact ⟨A2, c2, R2, g3, R3, h2, ⟨h3, h5, h6⟩, ⟨h4, h7⟩, h8⟩
          clear hc hX hlen hc0 HST
          go_upto_region 11 with (go_at_call 15; (with_reducible refine (HS2.out _ (Ext.refl _)).mono ?_); rintro e1 w3 ⟨A2, c2', R2, g3, R3, rfl, l2, l3, h3⟩; have HX3 := Lib.hid h3; have HL2 := Lib.hid l2; have HL3 := Lib.hid l3; obtain ⟨y0, y1, y2⟩ := HB.out.ext (HXo.out.trans h3); clear h3 l2 l3)
          have HOW := Lib.hid H.out.1.own.lt
          go_wp2_with fail
          (try rw [← hbl])
          clear hbl xl
          have HN0 : Hid (NwM w3 w3 w3.heap.size none 0 (fun _ => RN.z) (upto (runV D IN t) 0) 0) := NwM.nil (Ext.refl _) (Nat.le_refl _) (Nat.le_refl _) _ _
          go_loopw [13, 41] (fun s13 s wy => ∃ (j : Nat) (A5 : Option Addr) (c5 : Nat) (R5 : Nat → RN), j ≤ D.no ∧ s = I j ∧ s13 = .slice A5 j c5 ∧ Hid (NwM w3 wy w3.heap.size A5 c5 R5 (upto (runV D IN t) j) j ∧ ∀ i, i < j → 0 < len (runV D IN t i).m → ∀ a, (R5 i).A = some a → some a.block ≠ (Value.slice A t c3).ownBlock)) (fun _ s _ => D.no - (intOf s).toNat)
          case atStart => exact ⟨0, none, 0, _, Nat.zero_le _, rfl, rfl, HN0.out, fun i hi => absurd hi (by omega)⟩
          case round =>
            clear HN0 y0 y1 y2 c0 c1 c2
            obtain ⟨j, A5, c5, R5, hj, rfl, rfl, HW⟩ := hrel
            by_cases hlt7 : j < D.no
            · have hXw := HX3.out.trans HW.out.1.ext
              obtain ⟨bO, oO, hbO, hblO, hcO⟩ := (HD.out.ext (HXo.out.trans hXw)).outs (by omega)
              have a0 := hcO j hlt7
              have hou := OK.out.out j hlt7
              obtain ⟨y, hy⟩ : ∃ y : Nat, (D.O j).toNat = y := ⟨_, rfl⟩
              have hy2 : D.O j = (y : Int) := by omega
              have hyn : y < D.nb := by omega
              rw [hy2] at a0
              have hRV : runV D IN t j = tkV D (sqS D IN t) (IN t) y := by unfold runV outV; rw [hy]
              have hcy := HL3.out.1.el y hyn
              have hq9 := HL3.out.2 y hyn
              rw [← hRV] at hcy hq9
              have HCY := Lib.hid hcy
              have HBR : Hid (0 < len (runV D IN t j).m → ∀ a, (R3 y).A = some a → a.block < w3.heap.size) := hcy.blk
              have HUP5 : Hid (∀ i, putD (upto (runV D IN t) j) j (runV D IN t j) i = upto (runV D IN t) (j + 1) i) := upto_put _ j
              have HQ9 : Hid (∀ i, i < j + 1 → 0 < len (runV D IN t i).m → ∀ a, (putR R5 j (R3 y) i).A = some a → some a.block ≠ (Value.slice A t c3).ownBlock) := fun i hi => by
                unfold putR
                by_cases h : i = j
                · rw [if_pos h, h]; exact hq9
                · rw [if_neg h]; exact HW.out.2 i (by omega)
              obtain ⟨b3, o3, h3, hb3, hc3⟩ := (HL3.out.1.ext HW.out.1.ext).rn (by omega)
              injection h3 with h3; injection h3 with h3 h3'
              subst h3; subst h3'
              obtain ⟨d0, d1, d2⟩ := hc3 y hyn
              rw [Nat.zero_add] at d0 d1 d2
              have hlt8 : (j : Int) < (D.no : Int) := by omega
              have hyl : (y : Int) < (D.nb : Int) := by omega
              have hblt := HW.out.1.blt
              clear hcO hou hRV hcy hq9 hc3 hXw hy hy2
              generalize R3 y = ry at *
              go_wp2_with (at_builtin; refine appN rfl _ _ rfl w3.heap.size A5 c5 (putR R5 j ry) j rfl (HW.out.1.own' (Ext.alloc _ _) _) _ _ rfl (news3 rfl R5 j) (by omega) (by simp; omega) ?_; intro g5 cap w4 hown hgrow hat hltg; have HN := Lib.hid (HW.out.1.step (Ext.alloc _ _) ry (runV D IN t j) (HCY.out.ext (HW.out.1.ext.trans (Ext.alloc _ _))) (fun hl a ha q => by have h1 := HBR.out hl a ha; have h2 := (HW.out.1.own.lt a.block q.symm).1; omega) hown hgrow hat); clear hown hgrow hat hltg)
              (try rw [← hbO])
              go_roundw
              case rel => exact ⟨.slice (some ⟨g5, 0, none⟩) (j + 1) cap, I y, I ((j : Int) + 1), ⟨j + 1, by omega, by go_num, _, _, rfl, _, HN.out.congr (fun i _ => HUP5.out i), HQ9.out⟩, rfl, rfl, rfl⟩
              case measure => simp [intOf]; omega
            · obtain rfl : j = D.no := by omega
              have HRW : Hid (Ln wr A5 D.no R5 (runV D IN t) ∧ Apt (Value.slice A t c3).ownBlock A5 D.no R5 (runV D IN t)) := ⟨HW.out.1.ln.congr fun i hi => upto_end hi, fun _ a ha q => by
                have h1 := (HW.out.1.own.lt a.block (by rw [ha]; rfl)).1
                have h2 := (HOW.out a.block q.symm).2
                have h3 := HX3.out.size
                omega, HW.out.2⟩
              have HXW := Lib.hid (HX3.out.trans HW.out.1.ext)
              have HLW := Lib.hid (HL2.out.1.ext HW.out.1.ext)
              have hbb2 : w2.heap.size ≤ wr.heap.size := Nat.le_trans H.out.1.blt (HX3.out.trans HW.out.1.ext).size
              clear HW
              go_wp2_with (at_builtin; refine appR rfl _ _ rfl w2.heap.size A c3 (putA G t A5) (putN cc t c5) D.no t rfl (H.out.1.own' (HXW.out.trans (Ext.alloc _ _)) A5 c5) _ _ rfl (by unfold putA putN; rw [if_pos rfl, if_pos rfl]; go_simp) (by omega) (by simp; omega) ?_; intro g6 cap w5 hown hgrow hat hltg; have HN := Lib.hid (H.out.1.step (HXW.out.trans (Ext.alloc _ _)) (HRW.out.1.ext (Ext.alloc _ _)) HRW.out.2 (HLW.out.ext (Ext.alloc _ _)) HL2.out.2 hown hgrow hat); clear hown hgrow hat hltg)
              go_roundw
              case rel => exact ⟨t + 1, _, _, _, _, _, _, _, _, by omega, by go_num, rfl, rfl, HN.out, HNX.out⟩
              case measure => simp [intOf]; omega
        · have HS2 : Hid (∀ w', Ext wo w' → Calls Tryz.prog 15 #[dgv D p, .slice As ld cs, .slice (AA t) (m t) (c t)] w' (fun e w'' => e = .returned (.tuple #[.slice none 0 0, .slice none 0 0, I (tcE D m IN t)]) ∧ Ext w' w'')) := fun w' e => (HST.out w' e).mono fun e w'' h => by
            rcases h with ⟨h1, h2, h3⟩ | ⟨h1, _⟩
            · rw [← hlen] at h2; exact ⟨h2, h3⟩
            · exact absurd (hlen.trans h1) hc0
          have HR1 : Hid (runE D n m IN = tcE D m IN t ∧ tcE D m IN t ≠ 0) := ⟨by rw [HRE.out]; exact fstE_hit H.out.2 hlt hc0, hc0⟩
          have g0 : ((tcE D m IN t) != 0) = true := by simpa using hc0
          clear hc hX hlen hc0 HST
          generalize tcE D m IN t = code at *
          go_wp2_with (go_at_call 15; (with_reducible refine (HS2.out _ (Ext.refl _)).mono ?_); rintro e1 w3 ⟨rfl, h3⟩; have HX3 := Lib.hid h3; clear h3)
          exact bodyPost_ret (v := .tuple #[.slice none 0 0, I code]) (by simp [results, Tryz.results19, go_sem]) rfl (.inl ⟨by rw [HR1.out.1]; exact HR1.out.2, by rw [HR1.out.1], HE.out.trans (HXo.out.trans HX3.out)⟩)
      · obtain rfl : t = n := by omega
        have HR0 : Hid (runE D t m IN = 0) := by show _ = _; rw [HRE.out]; exact fstE_none H.out.2
        go_wp2_with fail
        exact bodyPost_ret (v := .tuple #[.slice A t c3, I 0]) (by simp [results, Tryz.results19, go_sem]) rfl (.inr ⟨HR0.out, A, c3, G, cc, R, rfl, H.out.1.own.at_, fun k hk => (H.out.1.el k hk).1, HE.out.trans (HX2.out.trans H.out.1.ext)⟩)
end Go.Proofs.YtgnaljnmjphleaaGreatDoor
